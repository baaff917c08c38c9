package bounds

import (
	"partsync/api"
	"partsync/interval"
	"partsync/predicate"
	"partsync/region"
)

// space has the kinds of the columns, at most MaxWidth; so the regions and boxes that it returns have no errors.
type space []int

// all returns the region of all rows.
func (s space) all() api.Region {
	r, _ := region.All(len(s))
	return r
}

// none returns the region without rows.
func (s space) none() api.Region {
	r, _ := region.Empty(len(s))
	return r
}

// box returns the region of the rows whose cells at the columns are in the set.
func (s space) box(set []api.Interval, columns ...int) api.Region {
	sets := make([][]api.Interval, len(s))
	for i := range sets {
		sets[i] = interval.All()
	}
	for _, c := range columns {
		sets[c] = set
	}
	r, _ := region.Box(sets)
	return r
}

// comparison returns the regions of a valid comparison without parameters.
func (s space) comparison(p api.Predicate) pair {
	left, right := p.Left, p.Right
	switch {
	case left.Kind == api.OperandValue && right.Kind == api.OperandValue:
		if predicate.Holds(p, nil, nil) {
			return pair{inner: s.all(), outer: s.all()}
		}
		return pair{inner: s.none(), outer: s.none()}
	case left.Kind == api.OperandValue:
		return s.cells(right.Index, related(turned(p.Cmp), left.Value))
	case right.Kind == api.OperandValue:
		return s.cells(left.Index, related(p.Cmp, right.Value))
	case left.Index == right.Index:
		return s.cells(left.Index, selfRelated(p.Cmp, s[left.Index]))
	}
	return pair{inner: s.none(), outer: s.box(ofKind(s[left.Index]), left.Index, right.Index)}
}

// cells returns the regions of the condition that the cell at the column is in the set.
func (s space) cells(column int, set []api.Interval) pair {
	return pair{inner: s.box(set, column), outer: s.box(set, column)}
}

// turned returns the comparison that holds of b and a if cmp holds of a and b.
func turned(cmp int) int {
	switch cmp {
	case api.CmpLt:
		return api.CmpGt
	case api.CmpLe:
		return api.CmpGe
	case api.CmpGt:
		return api.CmpLt
	case api.CmpGe:
		return api.CmpLe
	}
	return cmp
}

// related returns the set of the values of v's kind that stand in this comparison to the real value v.
func related(cmp int, v api.Value) []api.Interval {
	kind := ofKind(v.Kind)
	equal, _ := interval.One(v)
	// From goes on to the values of the greater kinds.
	atLeast, _ := interval.From(v)
	less := without(kind, atLeast)
	greater := without(without(kind, less), equal)
	switch cmp {
	case api.CmpEq:
		return equal
	case api.CmpNe:
		return without(kind, equal)
	case api.CmpLt:
		return less
	case api.CmpLe:
		return without(kind, greater)
	case api.CmpGt:
		return greater
	}
	return without(kind, less)
}

// selfRelated returns the set of the values of the kind that stand in this comparison to themselves.
func selfRelated(cmp, kind int) []api.Interval {
	switch cmp {
	case api.CmpEq, api.CmpLe, api.CmpGe:
		return ofKind(kind)
	}
	return nil
}

// ofKind returns the set of the values of a column's kind.
func ofKind(kind int) []api.Interval {
	set, _ := interval.OfKind(kind)
	return set
}

// without returns the values of a that are not in b, which are so few intervals here that there is no error.
func without(a, b []api.Interval) []api.Interval {
	set, _ := interval.Minus(a, b)
	return set
}
