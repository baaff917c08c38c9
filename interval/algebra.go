package interval

import (
	"partsync/api"
	"partsync/value"
)

// Union returns the set of the values that are in a or in b; ErrInterval or ErrLimit if an argument is not
// canonical or the result too long.
func Union(a, b []api.Interval) ([]api.Interval, api.Errno) {
	return operate(a, b, func(inA, inB bool) bool { return inA || inB })
}

// Intersect returns the set of the values that are in a and in b; its errors are those of Union.
func Intersect(a, b []api.Interval) ([]api.Interval, api.Errno) {
	return operate(a, b, func(inA, inB bool) bool { return inA && inB })
}

// Minus returns the set of the values that are in a but not in b; its errors are those of Union.
func Minus(a, b []api.Interval) ([]api.Interval, api.Errno) {
	return operate(a, b, butNot)
}

// Complement returns the set of the valid values that are not in a; its errors are those of Union.
func Complement(a []api.Interval) ([]api.Interval, api.Errno) {
	return Minus(All(), a)
}

// Covers reports whether every value of b is in a; ErrInterval if an argument is not canonical.
func Covers(a, b []api.Interval) (bool, api.Errno) {
	if !Valid(a) || !Valid(b) {
		return false, api.ErrInterval
	}
	// Minus would refuse a rest of too many intervals.
	return len(merge(b, a, butNot)) == 0, api.OK
}

func butNot(inA, inB bool) bool {
	return inA && !inB
}

// operate is merge for arguments that may not be canonical and a result that may be too long.
func operate(a, b []api.Interval, keep func(inA, inB bool) bool) ([]api.Interval, api.Errno) {
	if !Valid(a) || !Valid(b) {
		return nil, api.ErrInterval
	}
	merged := merge(a, b, keep)
	if len(merged) > api.MaxIntervals {
		return nil, api.ErrLimit
	}
	return merged, api.OK
}

// merge returns the intervals of the values that keep chooses by whether a and b contain them, in canonical
// form but for their number. It looks only at the bounds of a and b, between which nothing changes; before
// the first of them it takes no value, so keep must choose none that neither contains.
func merge(a, b []api.Interval, keep func(inA, inB bool) bool) []api.Interval {
	var merged []api.Interval
	inside := false
	next := walk(a, b)
	for point, inA, inB, ok := next(); ok; point, inA, inB, ok = next() {
		if keep(inA, inB) == inside {
			continue
		}
		if inside {
			last := &merged[len(merged)-1]
			last.To, last.Open = point, false
		} else {
			merged = append(merged, api.Interval{From: point, Open: true})
		}
		inside = !inside
	}
	return merged
}

// walk returns a closure that goes through the bounds of a and b in ascending order, each value once: it
// tells the next one, and whether a and b contain it; false at last if there is none left.
func walk(a, b []api.Interval) func() (point api.Value, inA, inB, ok bool) {
	passedA, passedB := 0, 0
	return func() (point api.Value, inA, inB, ok bool) {
		boundA, moreA := bound(a, passedA)
		boundB, moreB := bound(b, passedB)
		passA := moreA && (!moreB || value.Compare(boundA, boundB) <= 0)
		passB := moreB && (!moreA || value.Compare(boundB, boundA) <= 0)
		if passA {
			point = boundA
			passedA++
		}
		if passB {
			point = boundB
			passedB++
		}
		// A canonical set begins at its first bound, ends at the second one, and so on.
		return point, passedA%2 == 1, passedB%2 == 1, passA || passB
	}
}

// bound returns the n-th of the values at which the set begins or ends; false if there are not so many.
func bound(l []api.Interval, n int) (api.Value, bool) {
	i := n / 2
	if i >= len(l) {
		return api.Value{}, false
	}
	if n%2 == 0 {
		return l[i].From, true
	}
	return l[i].To, !l[i].Open
}
