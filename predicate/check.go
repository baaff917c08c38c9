package predicate

import (
	"partsync/api"
	"partsync/value"
)

// Check returns OK if p is valid for rows and parameters of these kinds; ErrArg if one of these is no column
// kind, ErrLimit if p is too large, ErrPredicate if one of its nodes is not valid.
func Check(columns, params []int, p api.Predicate) api.Errno {
	if !columnKinds(columns) || !columnKinds(params) {
		return api.ErrArg
	}
	if !small(p) {
		return api.ErrLimit
	}
	k := kinds{columns: columns, params: params}
	if !everyNode(p, 1, func(node api.Predicate, _ int) bool { return k.valid(node) }) {
		return api.ErrPredicate
	}
	return api.OK
}

// columnKinds reports whether all of the kinds are column kinds.
func columnKinds(kinds []int) bool {
	for _, kind := range kinds {
		if kind != api.KindBool && kind != api.KindInt && kind != api.KindText {
			return false
		}
	}
	return true
}

// small reports whether p is within the limits. It gives up at the first node that is not, as a tree whose
// branches share memory may be too large to walk.
func small(p api.Predicate) bool {
	nodes := 0
	return everyNode(p, 1, func(_ api.Predicate, depth int) bool {
		nodes++
		return nodes <= api.MaxNodes && depth <= api.MaxDepth
	})
}

// kinds are those of the columns and parameters that a predicate may name.
type kinds struct {
	columns, params []int
}

// valid reports whether the node itself is valid, whatever its arguments are.
func (k kinds) valid(node api.Predicate) bool {
	if node.Op == api.PredCompare {
		return len(node.Args) == 0 && comparison(node.Cmp) != nil && k.alike(node.Left, node.Right)
	}
	none := api.Operand{}
	if node.Cmp != 0 || node.Left != none || node.Right != none {
		return false
	}
	switch node.Op {
	case api.PredTrue, api.PredFalse:
		return len(node.Args) == 0
	case api.PredAnd, api.PredOr:
		return true
	case api.PredNot:
		return len(node.Args) == 1
	}
	return false
}

// alike reports whether the operands are valid and of the same kind.
func (k kinds) alike(left, right api.Operand) bool {
	leftKind, leftValid := k.of(left)
	rightKind, rightValid := k.of(right)
	return leftValid && rightValid && leftKind == rightKind
}

// of returns the kind of the operand, and whether the operand is valid; the kind means nothing if it is not.
func (k kinds) of(o api.Operand) (int, bool) {
	switch o.Kind {
	case api.OperandColumn:
		kind, ok := at(k.columns, o.Index)
		return kind, ok && o.Value == api.Value{}
	case api.OperandParam:
		kind, ok := at(k.params, o.Index)
		return kind, ok && o.Value == api.Value{}
	case api.OperandValue:
		return o.Value.Kind, o.Index == 0 && value.Real(o.Value)
	}
	return 0, false
}
