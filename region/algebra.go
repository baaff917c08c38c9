package region

import (
	"cmp"
	"slices"

	"partsync/api"
	"partsync/codec"
	"partsync/value"
)

// operation is a Boolean operation on two regions: whether it keeps the rows that are in both of them, in
// the first one alone, and in the second one alone. Rows that are in neither it never keeps.
type operation struct {
	both, first, second bool
}

func (o operation) keeps(inFirst, inSecond bool) bool {
	switch {
	case inFirst && inSecond:
		return o.both
	case inFirst:
		return o.first
	case inSecond:
		return o.second
	}
	return false
}

// Union returns the region of the rows that are in a or in b; ErrRegion if an argument is not canonical or
// the widths differ, ErrLimit if the result has no canonical form.
func Union(a, b api.Region) (api.Region, api.Errno) {
	return operate(a, b, operation{both: true, first: true, second: true}.keeps)
}

// Intersect returns the region of the rows that are in a and in b; its errors are those of Union.
func Intersect(a, b api.Region) (api.Region, api.Errno) {
	return operate(a, b, operation{both: true}.keeps)
}

// Minus returns the region of the rows that are in a but not in b; its errors are those of Union.
func Minus(a, b api.Region) (api.Region, api.Errno) {
	return operate(a, b, operation{first: true}.keeps)
}

// Complement returns the region of the rows of a's width that are not in a; its errors are those of Union.
func Complement(a api.Region) (api.Region, api.Errno) {
	// If a has no width of a region, All fails, and Minus refuses a.
	all, _ := All(a.Width)
	return Minus(all, a)
}

// Covers reports whether every row of b is in a; ErrRegion if an argument is not canonical or the widths differ.
func Covers(a, b api.Region) (bool, api.Errno) {
	if !matching(a, b) {
		return false, api.ErrRegion
	}
	// Minus would refuse a rest that is too large.
	return empty(combine(b, a, operation{first: true}.keeps)), api.OK
}

// matching reports whether the regions are canonical and of one width.
func matching(a, b api.Region) bool {
	return a.Width == b.Width && Valid(a) && Valid(b)
}

// operate is combine for arguments that may not be canonical and a result that may be too large.
func operate(a, b api.Region, keep func(inA, inB bool) bool) (api.Region, api.Errno) {
	if !matching(a, b) {
		return api.Region{}, api.ErrRegion
	}
	return limited(combine(a, b, keep))
}

// limited returns r, which has the canonical form; ErrLimit if it is too large.
func limited(r api.Region) (api.Region, api.Errno) {
	if size(r) > api.MaxParts || !short(r) {
		return api.Region{}, api.ErrLimit
	}
	return r, api.OK
}

// short reports whether no set of r has too many intervals.
func short(r api.Region) bool {
	for _, part := range r.Parts {
		if len(part.Values) > api.MaxIntervals || !short(part.Rest) {
			return false
		}
	}
	return true
}

// combine returns the rows that keep chooses by whether a and b contain them, in canonical form but for the
// limits, and in new memory. The arguments are canonical and of one width. It looks at the first cells at
// which a part begins or ends, between which nothing changes; so keep must choose no row that neither contains.
func combine(a, b api.Region, keep func(inA, inB bool) bool) api.Region {
	if a.Width == 0 {
		return api.Region{Full: keep(a.Full, b.Full)}
	}
	result := builder{byRest: map[string]int{}, current: none}
	known := map[[2]int]int{}
	at := [2]int{none, none}
	all := borders(a, b)
	for i, here := range all {
		at[here.side] = here.part
		if i+1 < len(all) && all[i+1].from == here.from {
			continue
		}
		part, ok := known[at]
		if !ok {
			part = result.withRest(combine(restAt(a, at[0]), restAt(b, at[1]), keep))
			known[at] = part
		}
		result.turn(here.from, part)
	}
	return api.Region{Width: a.Width, Parts: result.parts}
}

// none stands for the index of a part where there is no part.
const none = -1

// restAt returns the rest of the part with this index: the rows that may follow a first cell in it.
func restAt(r api.Region, part int) api.Region {
	if part == none {
		return api.Region{Width: r.Width - 1}
	}
	return r.Parts[part].Rest
}

// border says that from a value on, another part of one of two regions, or none, contains the first cells.
type border struct {
	from       api.Value
	side, part int
}

// borders lists the borders of a, which is side 0, and b, which is side 1, in ascending order. Where one
// part ends and another one begins, the one that begins comes last, so that it holds.
func borders(a, b api.Region) []border {
	var all []border
	for side, r := range [2]api.Region{a, b} {
		for i, part := range r.Parts {
			for _, piece := range part.Values {
				all = append(all, border{piece.From, side, i})
				if !piece.Open {
					all = append(all, border{piece.To, side, none})
				}
			}
		}
	}
	slices.SortFunc(all, func(x, y border) int {
		return cmp.Or(value.Compare(x.from, y.from), cmp.Compare(x.part, y.part))
	})
	return all
}

// builder makes the parts of a region from its first cells, which it is told in ascending order.
type builder struct {
	parts   []api.Part
	byRest  map[string]int // the parts, by the keys of their rests
	current int            // the part whose last interval has no end yet
}

// withRest returns the index of the part with this rest, a new one if there is none yet; none if the rest is empty.
func (b *builder) withRest(rest api.Region) int {
	if empty(rest) {
		return none
	}
	k := key(rest)
	part, ok := b.byRest[k]
	if !ok {
		part = len(b.parts)
		b.byRest[k] = part
		b.parts = append(b.parts, api.Part{Rest: rest})
	}
	return part
}

// turn makes the part contain the first cells from a value on, in place of the current one.
func (b *builder) turn(from api.Value, part int) {
	if part == b.current {
		return
	}
	if b.current != none {
		values := b.parts[b.current].Values
		last := &values[len(values)-1]
		last.To, last.Open = from, false
	}
	if part != none {
		p := &b.parts[part]
		p.Values = append(p.Values, api.Interval{From: from, Open: true})
	}
	b.current = part
}

// key encodes r, which has the canonical form and is not empty, so that regions of one width have one key
// only if they are equal.
func key(r api.Region) string {
	return string(appendKey(nil, r))
}

func appendKey(k []byte, r api.Region) []byte {
	k = appendCount(k, len(r.Parts))
	for _, part := range r.Parts {
		k = appendCount(k, len(part.Values))
		for _, piece := range part.Values {
			k = appendValue(k, piece.From)
			// An Open interval has the zero To, whose place is taken by a byte that is no kind of value.
			if piece.Open {
				k = append(k, 0)
			} else {
				k = appendValue(k, piece.To)
			}
		}
		k = appendKey(k, part.Rest)
	}
	return k
}

// appendCount and appendValue let codec encode alone what is appended, as it would copy all that stands before it.

func appendCount(k []byte, n int) []byte {
	return append(k, codec.AppendUint(nil, uint64(n))...)
}

func appendValue(k []byte, v api.Value) []byte {
	encoded, _ := codec.AppendValue(nil, v)
	return append(k, encoded...)
}
