package predicate_test

import (
	"math"
	"slices"
	"testing"

	"partsync/api"
	"partsync/predicate"
)

// wrongKinds are not column kinds.
func wrongKinds() []int {
	return []int{0, api.KindMissing, api.KindHidden, 6, -1, -3, math.MinInt, math.MaxInt}
}

// under returns a chain of this many negations with the predicate at its end.
func under(levels int, p api.Predicate) api.Predicate {
	for range levels {
		p = not(p)
	}
	return p
}

// many returns n times true.
func many(n int) []api.Predicate {
	return slices.Repeat([]api.Predicate{always()}, n)
}

// P5.1
func TestCheckKinds(t *testing.T) {
	right := [][]int{nil, {}, {kb}, {ki}, {kt}, {kb, ki, kt, kt}, slices.Repeat([]int{ki}, 1000)}
	for _, columns := range right {
		for _, params := range right {
			if errno := predicate.Check(columns, params, always()); errno != api.OK {
				t.Errorf("Check(%v, %v, true) = %d", columns, params, errno)
			}
		}
	}
	tooLarge := and(many(24)...)
	for _, kind := range wrongKinds() {
		for _, list := range [][]int{{kind}, {kind, ki}, {kb, kind, ki}, {ki, kt, kind}} {
			for _, p := range []api.Predicate{always(), {}, tooLarge} {
				for _, other := range [][]int{nil, {ki}, {kind}} {
					a, b := predicate.Check(list, other, p), predicate.Check(other, list, p)
					if a != api.ErrArg || b != api.ErrArg {
						t.Errorf("Check with the kinds %v and %v = %d, and the other way %d", list, other, a, b)
					}
				}
			}
		}
	}
}

// P5.1 and P5.7: all nodes count, wherever they stand.
func TestCheckLimits(t *testing.T) {
	deepest := under(7, always())
	for i, c := range []struct {
		p    api.Predicate
		want api.Errno
	}{
		{and(many(23)...), api.OK},
		{and(many(24)...), api.ErrLimit},
		{or(many(23)...), api.OK},
		{or(many(24)...), api.ErrLimit},
		{and(many(100000)...), api.ErrLimit},
		{and(or(many(11)...), or(many(10)...)), api.OK},
		{and(or(many(11)...), or(many(11)...)), api.ErrLimit},
		{and(deepest, deepest, always(), and(many(4)...)), api.ErrLimit},
		{and(under(6, always()), under(6, always()), and(many(8)...)), api.OK},
		{and(under(6, always()), under(6, always()), and(many(9)...)), api.ErrLimit},
		{deepest, api.OK},
		{not(deepest), api.ErrLimit},
		{under(7, and()), api.OK},
		{under(8, and()), api.ErrLimit},
		{or(always(), deepest), api.ErrLimit},
		{or(under(6, always()), always()), api.OK},
		{or(always(), under(6, always())), api.OK},
		{or(always(), under(7, always())), api.ErrLimit},
		{under(6, or(always(), always())), api.OK},
		{under(6, or(always(), not(always()))), api.ErrLimit},
		{under(1<<16, always()), api.ErrLimit},
		// What is too large is so whether its nodes are valid or not.
		{and(append(many(23), api.Predicate{})...), api.ErrLimit},
		{under(8, api.Predicate{}), api.ErrLimit},
		{api.Predicate{Args: many(23)}, api.ErrPredicate},
		{api.Predicate{Args: many(24)}, api.ErrLimit},
		{api.Predicate{Op: api.PredTrue, Args: many(23)}, api.ErrPredicate},
		{api.Predicate{Op: api.PredTrue, Args: many(24)}, api.ErrLimit},
		{api.Predicate{Op: api.PredFalse, Args: many(24)}, api.ErrLimit},
		{api.Predicate{Op: api.PredCompare, Args: many(23)}, api.ErrPredicate},
		{api.Predicate{Op: api.PredCompare, Args: many(24)}, api.ErrLimit},
		{api.Predicate{Op: api.PredNot, Args: many(23)}, api.ErrPredicate},
		{api.Predicate{Op: api.PredNot, Args: many(24)}, api.ErrLimit},
		{api.Predicate{Op: api.PredTrue, Args: []api.Predicate{under(6, always())}}, api.ErrPredicate},
		{api.Predicate{Op: api.PredTrue, Args: []api.Predicate{under(7, always())}}, api.ErrLimit},
		{api.Predicate{Op: api.PredNot, Args: []api.Predicate{always(), under(7, always())}}, api.ErrLimit},
	} {
		if errno := predicate.Check(nil, nil, c.p); errno != c.want {
			t.Errorf("%d: Check = %d, want %d", i, errno, c.want)
		}
	}
}

// P5.1 with R1: a tree whose branches share memory has more nodes than can be visited.
func TestCheckEnds(t *testing.T) {
	shared := always()
	for range 1000 {
		shared = and(shared, shared)
	}
	circle := []api.Predicate{{Op: api.PredNot}}
	circle[0].Args = circle
	for _, p := range []api.Predicate{shared, circle[0]} {
		if errno := predicate.Check(nil, nil, p); errno != api.ErrLimit {
			t.Errorf("Check = %d, want %d", errno, api.ErrLimit)
		}
	}
}

// P5.1: every combination of an operator with one field that is set, and with a number of arguments.
func TestCheckFields(t *testing.T) {
	five := val(num(5))
	set := map[string]func(p *api.Predicate){
		"none":      func(p *api.Predicate) {},
		"Cmp":       func(p *api.Predicate) { p.Cmp = api.CmpEq },
		"Cmp -1":    func(p *api.Predicate) { p.Cmp = -1 },
		"Left":      func(p *api.Predicate) { p.Left = five },
		"Right":     func(p *api.Predicate) { p.Right = five },
		"Kind":      func(p *api.Predicate) { p.Left.Kind = api.OperandColumn },
		"Index":     func(p *api.Predicate) { p.Right.Index = 1 },
		"Value":     func(p *api.Predicate) { p.Left.Value.Kind = api.KindBool },
		"Int":       func(p *api.Predicate) { p.Right.Value.Int = 1 },
		"Text":      func(p *api.Predicate) { p.Left.Value.Text = "a" },
		"a compare": func(p *api.Predicate) { p.Cmp, p.Left, p.Right = api.CmpEq, five, five },
	}
	allowed := map[int][]int{
		api.PredTrue:    {0},
		api.PredFalse:   {0},
		api.PredCompare: {0},
		api.PredAnd:     {0, 1, 2, 3},
		api.PredOr:      {0, 1, 2, 3},
		api.PredNot:     {1},
	}
	for _, op := range []int{api.PredTrue, api.PredFalse, api.PredCompare, api.PredAnd, api.PredOr, api.PredNot, 0, 7, -1, math.MinInt, math.MaxInt} {
		for name, change := range set {
			for args := range 4 {
				p := api.Predicate{Op: op, Args: many(args)}
				change(&p)
				want := api.ErrPredicate
				fields := "none"
				if op == api.PredCompare {
					fields = "a compare"
				}
				if name == fields && slices.Contains(allowed[op], args) {
					want = api.OK
				}
				if errno := predicate.Check([]int{kb}, nil, p); errno != want {
					t.Errorf("Check of Op %d with %s and %d arguments = %d, want %d", op, name, args, errno, want)
				}
			}
		}
	}
	if errno := predicate.Check(nil, nil, api.Predicate{Op: api.PredTrue, Args: []api.Predicate{}}); errno != api.OK {
		t.Errorf("Check of true with an empty list of arguments = %d", errno)
	}
}

// P5.1: the node that is not valid may stand anywhere.
func TestCheckEveryNode(t *testing.T) {
	good := compare(col(0), api.CmpLt, val(num(5)))
	for _, bad := range []api.Predicate{{}, compare(col(1), api.CmpLt, val(num(5))), {Op: api.PredNot}} {
		for i, p := range []api.Predicate{
			bad, and(bad), or(bad), not(bad), and(bad, good), and(good, bad), and(good, bad, good), or(good, good, bad),
			and(good, not(or(never(), bad))), or(and(bad), always()), under(7, bad),
		} {
			if errno := predicate.Check([]int{ki}, nil, p); errno != api.ErrPredicate {
				t.Errorf("%d: Check = %d, want %d", i, errno, api.ErrPredicate)
			}
		}
	}
	p := and(good, not(or(never(), good, and(), or())), always())
	if errno := predicate.Check([]int{ki}, nil, p); errno != api.OK {
		t.Errorf("Check = %d", errno)
	}
}

// operand is an operand for the columns bool, int, text and the parameters text, bool, int, and its kind; 0 if it is not valid.
type operand struct {
	o    api.Operand
	kind int
}

func operands() []operand {
	list := []operand{
		{col(0), kb}, {col(1), ki}, {col(2), kt}, {col(3), 0}, {col(-1), 0}, {col(math.MinInt), 0}, {col(math.MaxInt), 0},
		{par(0), kt}, {par(1), kb}, {par(2), ki}, {par(3), 0}, {par(-1), 0}, {par(math.MinInt), 0}, {par(math.MaxInt), 0},
		{val(yes()), kb}, {val(no()), kb}, {val(num(0)), ki}, {val(num(math.MinInt64)), ki}, {val(text("")), kt}, {val(text(repeat("\xff", 64))), kt},
		{api.Operand{}, 0},
		{api.Operand{Kind: 4, Value: num(1)}, 0},
		{api.Operand{Kind: -1, Value: num(1)}, 0},
		{api.Operand{Value: num(1)}, 0},
		{api.Operand{Kind: math.MaxInt}, 0},
	}
	for _, v := range unreal() {
		list = append(list, operand{val(v), 0})
	}
	for _, index := range []int{1, -1, math.MaxInt} {
		list = append(list, operand{api.Operand{Kind: api.OperandValue, Index: index, Value: num(1)}, 0})
	}
	for _, v := range []api.Value{{Kind: api.KindInt}, {Int: 1}, {Text: "a"}, num(1), hidden()} {
		list = append(list, operand{api.Operand{Kind: api.OperandColumn, Index: 1, Value: v}, 0})
		list = append(list, operand{api.Operand{Kind: api.OperandParam, Index: 2, Value: v}, 0})
	}
	return list
}

// P5.1
func TestCheckOperands(t *testing.T) {
	columns, params := []int{kb, ki, kt}, []int{kt, kb, ki}
	for _, left := range operands() {
		for _, right := range operands() {
			want := api.ErrPredicate
			if left.kind != 0 && left.kind == right.kind {
				want = api.OK
			}
			if errno := predicate.Check(columns, params, compare(left.o, api.CmpGe, right.o)); errno != want {
				t.Errorf("Check of a comparison of %v and %v = %d, want %d", left.o, right.o, errno, want)
			}
		}
	}
	for _, p := range []api.Predicate{compare(col(0), api.CmpEq, col(0)), compare(par(0), api.CmpEq, par(0))} {
		if errno := predicate.Check(nil, nil, p); errno != api.ErrPredicate {
			t.Errorf("Check of %v without columns and parameters = %d", p, errno)
		}
	}
}

// P5.1
func TestCheckComparisons(t *testing.T) {
	for _, cmp := range []int{-1, 0, 1, 2, 3, 4, 5, 6, 7, math.MinInt, math.MaxInt} {
		want := api.OK
		if cmp < 1 || cmp > 6 {
			want = api.ErrPredicate
		}
		for _, operands := range [][2]api.Operand{{col(0), val(yes())}, {val(num(5)), par(0)}, {val(text("a")), val(text("a"))}} {
			if errno := predicate.Check([]int{kb}, []int{ki}, compare(operands[0], cmp, operands[1])); errno != want {
				t.Errorf("Check of the comparison %d = %d, want %d", cmp, errno, want)
			}
		}
	}
}
