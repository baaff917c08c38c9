package region

import (
	"slices"

	"partsync/api"
)

// Project returns the rows of the cells at the columns of the rows of r; ErrRegion if r is not canonical,
// ErrArg if the columns are not different columns of r, ErrLimit if a union of boxes has no canonical form.
func Project(r api.Region, columns []int) (api.Region, api.Errno) {
	if errno := checkColumns(r, columns); errno != api.OK {
		return api.Region{}, errno
	}
	return uniteBoxes(r, len(columns), func(sets [][]api.Interval) [][]api.Interval {
		chosen := make([][]api.Interval, len(columns))
		for i, c := range columns {
			chosen[i] = sets[c]
		}
		return chosen
	})
}

// ForAll returns the rows such that r contains every row with their cells at the columns; its errors are
// those of Project, and ErrLimit too if a complement has no canonical form.
func ForAll(r api.Region, columns []int) (api.Region, api.Errno) {
	if errno := checkColumns(r, columns); errno != api.OK {
		return api.Region{}, errno
	}
	outside, errno := Complement(r)
	if errno != api.OK {
		return api.Region{}, errno
	}
	missed, errno := Project(outside, columns)
	if errno != api.OK {
		return api.Region{}, errno
	}
	return Complement(missed)
}

// Lift returns the rows of the width whose cells at the columns are a row of r; ErrRegion if r is not
// canonical or has another number of columns, ErrArg if there is no such width or these are not different
// columns of it, ErrLimit if a union of boxes has no canonical form.
func Lift(r api.Region, columns []int, width int) (api.Region, api.Errno) {
	if !Valid(r) || len(columns) != r.Width {
		return api.Region{}, api.ErrRegion
	}
	if width < 0 || width > api.MaxWidth || !different(columns, width) {
		return api.Region{}, api.ErrArg
	}
	return uniteBoxes(r, width, func(sets [][]api.Interval) [][]api.Interval {
		lifted := anySets(width)
		for i, c := range columns {
			lifted[c] = sets[i]
		}
		return lifted
	})
}

// checkColumns returns ErrRegion if r is not canonical, and ErrArg if the columns are not different columns of r.
func checkColumns(r api.Region, columns []int) api.Errno {
	if !Valid(r) {
		return api.ErrRegion
	}
	if !different(columns, r.Width) {
		return api.ErrArg
	}
	return api.OK
}

// different reports whether each of the columns is one of a region of this width, and none stands there twice.
func different(columns []int, width int) bool {
	var seen [api.MaxWidth]bool
	for _, c := range columns {
		if c < 0 || c >= width || seen[c] {
			return false
		}
		seen[c] = true
	}
	return true
}

// uniteBoxes returns the union of the boxes of this width that shape makes from the boxes of r, one after
// another; ErrLimit if it has no canonical form at some time, even if it had one at the end.
func uniteBoxes(r api.Region, width int, shape func(sets [][]api.Interval) [][]api.Interval) (api.Region, api.Errno) {
	united := api.Region{Width: width}
	for _, sets := range boxes(r) {
		next, errno := Union(united, boxOf(shape(sets)))
		if errno != api.OK {
			return api.Region{}, errno
		}
		united = next
	}
	return united, api.OK
}

// boxes lists the boxes of a canonical region, each as its sets, which are those of r itself.
func boxes(r api.Region) [][][]api.Interval {
	if r.Width == 0 {
		if r.Full {
			return [][][]api.Interval{{}}
		}
		return nil
	}
	var list [][][]api.Interval
	for _, part := range r.Parts {
		for _, sets := range boxes(part.Rest) {
			list = append(list, slices.Concat([][]api.Interval{part.Values}, sets))
		}
	}
	return list
}

// Product returns the rows that consist of a row of a and a row of b; ErrRegion if an argument is not
// canonical, ErrLimit if the result has no canonical form or would be too wide.
func Product(a, b api.Region) (api.Region, api.Errno) {
	if !Valid(a) || !Valid(b) {
		return api.Region{}, api.ErrRegion
	}
	width := a.Width + b.Width
	if width > api.MaxWidth {
		return api.Region{}, api.ErrLimit
	}
	if empty(a) || empty(b) {
		return api.Region{Width: width}, api.OK
	}
	return limited(followed(a, b))
}

// followed returns the canonical region a, each row of which is followed by the rows of b, in new memory;
// neither is empty.
func followed(a, b api.Region) api.Region {
	if a.Width == 0 {
		return copied(b)
	}
	result := api.Region{Width: a.Width + b.Width}
	for _, part := range a.Parts {
		result.Parts = append(result.Parts, api.Part{Values: slices.Clone(part.Values), Rest: followed(part.Rest, b)})
	}
	return result
}

// copied returns r in memory of its own.
func copied(r api.Region) api.Region {
	c := api.Region{Width: r.Width, Full: r.Full}
	for _, part := range r.Parts {
		c.Parts = append(c.Parts, api.Part{Values: slices.Clone(part.Values), Rest: copied(part.Rest)})
	}
	return c
}
