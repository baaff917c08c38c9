package predicate_test

import (
	"math"
	"math/rand"
	"reflect"
	"slices"
	"strings"
	"testing"

	"partsync/api"
	"partsync/predicate"
	"partsync/value"
)

const (
	kb = api.KindBool
	ki = api.KindInt
	kt = api.KindText
)

func missing() api.Value      { return api.Value{Kind: api.KindMissing} }
func hidden() api.Value       { return api.Value{Kind: api.KindHidden} }
func no() api.Value           { return api.Value{Kind: api.KindBool} }
func yes() api.Value          { return api.Value{Kind: api.KindBool, Int: 1} }
func num(n int64) api.Value   { return api.Value{Kind: api.KindInt, Int: n} }
func text(s string) api.Value { return api.Value{Kind: api.KindText, Text: s} }

func repeat(s string, n int) string { return strings.Repeat(s, n) }

func row(cells ...api.Value) api.Row { return cells }

func col(i int) api.Operand       { return api.Operand{Kind: api.OperandColumn, Index: i} }
func par(i int) api.Operand       { return api.Operand{Kind: api.OperandParam, Index: i} }
func val(v api.Value) api.Operand { return api.Operand{Kind: api.OperandValue, Value: v} }

func compare(left api.Operand, cmp int, right api.Operand) api.Predicate {
	return api.Predicate{Op: api.PredCompare, Cmp: cmp, Left: left, Right: right}
}

func always() api.Predicate { return api.Predicate{Op: api.PredTrue} }
func never() api.Predicate  { return api.Predicate{Op: api.PredFalse} }

func and(args ...api.Predicate) api.Predicate { return api.Predicate{Op: api.PredAnd, Args: args} }
func or(args ...api.Predicate) api.Predicate  { return api.Predicate{Op: api.PredOr, Args: args} }
func not(args ...api.Predicate) api.Predicate { return api.Predicate{Op: api.PredNot, Args: args} }

// unreal lists values that no comparison uses: they are Missing or Hidden, or not valid.
func unreal() []api.Value {
	return []api.Value{
		missing(), hidden(),
		{},
		{Kind: -1},
		{Kind: 6},
		{Kind: math.MaxInt},
		{Int: 1},
		{Kind: api.KindMissing, Int: 1},
		{Kind: api.KindHidden, Text: "a"},
		{Kind: api.KindBool, Int: 2},
		{Kind: api.KindBool, Int: -1},
		{Kind: api.KindBool, Text: "a"},
		{Kind: api.KindInt, Text: "a"},
		{Kind: api.KindText, Int: 1},
		text(repeat("a", 65)),
	}
}

// ascending lists real values, those of each kind in strictly ascending order.
func ascending() [][]api.Value {
	return [][]api.Value{
		{no(), yes()},
		{num(math.MinInt64), num(-1), num(0), num(1), num(10), num(math.MaxInt64)},
		{text(""), text("\x00"), text("10"), text("9"), text("B"), text("a"), text("a\x00"), text("ab"), text("b"), text("\x7f"), text("é"), text("\xff"), text(repeat("\xff", 64))},
	}
}

// outcomes says which comparisons hold of a lesser value and a greater one, of equal ones, and of a greater one and a lesser one.
func outcomes() map[int][3]bool {
	return map[int][3]bool{
		api.CmpEq: {false, true, false},
		api.CmpNe: {true, false, true},
		api.CmpLt: {true, false, false},
		api.CmpLe: {true, true, false},
		api.CmpGt: {false, false, true},
		api.CmpGe: {false, true, true},
	}
}

// everyCmp lists the comparisons, and numbers that are none.
func everyCmp() []int {
	return []int{api.CmpEq, api.CmpNe, api.CmpLt, api.CmpLe, api.CmpGt, api.CmpGe, 0, -1, 7, 100, math.MinInt, math.MaxInt}
}

// P5.2: the six comparisons of real values of the same kind, from wherever the values come.
func TestHoldsCompares(t *testing.T) {
	for _, values := range ascending() {
		for i, a := range values {
			for j, b := range values {
				side := 1
				if i < j {
					side = 0
				} else if i > j {
					side = 2
				}
				for _, cmp := range everyCmp() {
					want := outcomes()[cmp][side]
					for k, p := range []api.Predicate{
						compare(col(0), cmp, col(1)), compare(col(0), cmp, par(1)), compare(col(0), cmp, val(b)),
						compare(par(0), cmp, col(1)), compare(par(0), cmp, par(1)), compare(par(0), cmp, val(b)),
						compare(val(a), cmp, col(1)), compare(val(a), cmp, par(1)), compare(val(a), cmp, val(b)),
					} {
						if got := predicate.Holds(p, row(a, b), []api.Value{a, b}); got != want {
							t.Errorf("%d: %v compared by %d with %v: %v", k, a, cmp, b, got)
						}
					}
				}
			}
		}
	}
}

// wants checks that the predicate holds or not, and that its negation does not or does.
func wants(t *testing.T, p api.Predicate, r api.Row, params []api.Value, want bool) {
	t.Helper()
	if got := predicate.Holds(p, r, params); got != want {
		t.Errorf("Holds(%v, %v, %v) = %v", p, r, params, got)
	}
	if got := predicate.Holds(not(p), r, params); got == want {
		t.Errorf("Holds of the negation of %v with %v and %v = %v", p, r, params, got)
	}
}

// P5.2: values that are not real, or not of the same kind, do not compare, not even by CmpNe, nor with themselves.
func TestHoldsOfRealValuesOnly(t *testing.T) {
	others := slices.Concat(slices.Concat(ascending()...), unreal())
	for _, cmp := range everyCmp() {
		for _, a := range unreal() {
			for _, b := range others {
				for _, pair := range [][2]api.Value{{a, b}, {b, a}} {
					left, right := pair[0], pair[1]
					wants(t, compare(col(0), cmp, col(1)), row(left, right), nil, false)
					wants(t, compare(par(0), cmp, par(1)), nil, []api.Value{left, right}, false)
					wants(t, compare(val(left), cmp, val(right)), nil, nil, false)
				}
			}
			wants(t, compare(col(0), cmp, col(0)), row(a), nil, false)
		}
		for i, some := range ascending() {
			for j, more := range ascending() {
				if i != j {
					wants(t, compare(col(0), cmp, val(more[0])), row(some[1]), nil, false)
					wants(t, compare(val(more[1]), cmp, col(0)), row(some[0]), nil, false)
				}
			}
		}
	}
}

// P5.2: an operand that denotes nothing.
func TestHoldsOfOperandsThatDenoteNothing(t *testing.T) {
	r, params := row(num(5), num(5)), []api.Value{num(5), num(5), num(5)}
	for _, cmp := range everyCmp() {
		for _, o := range []api.Operand{
			col(2), col(-1), col(3), col(math.MinInt), col(math.MaxInt),
			par(3), par(-1), par(4), par(math.MinInt), par(math.MaxInt),
			{Value: num(5)}, {Kind: 4, Value: num(5)}, {Kind: -1, Value: num(5)}, {Kind: math.MaxInt, Value: num(5)},
			{Kind: api.OperandColumn, Index: 2, Value: num(5)}, {Kind: api.OperandParam, Index: 3, Value: num(5)},
		} {
			wants(t, compare(o, cmp, val(num(5))), r, params, false)
			wants(t, compare(val(num(5)), cmp, o), r, params, false)
			wants(t, compare(o, cmp, o), r, params, false)
		}
		wants(t, compare(col(0), cmp, col(0)), nil, params, false)
		wants(t, compare(par(0), cmp, par(0)), r, nil, false)
	}
	wants(t, compare(col(1), api.CmpEq, par(2)), r, params, true)
}

// P5.2 and P5.7: fields that are of no concern for what an operand denotes, and Args for a comparison.
func TestHoldsIgnoresWhatIsOfNoConcern(t *testing.T) {
	r, params := row(num(1), num(2)), []api.Value{num(3), num(4)}
	for _, index := range []int{1, 2, -1, math.MinInt, math.MaxInt} {
		wants(t, compare(api.Operand{Kind: api.OperandValue, Index: index, Value: num(9)}, api.CmpEq, val(num(9))), r, params, true)
	}
	for _, v := range append(unreal(), num(9), text("a")) {
		wants(t, compare(api.Operand{Kind: api.OperandColumn, Index: 1, Value: v}, api.CmpEq, val(num(2))), r, params, true)
		wants(t, compare(val(num(3)), api.CmpEq, api.Operand{Kind: api.OperandParam, Value: v}), r, params, true)
	}
	p := compare(col(0), api.CmpLt, col(1))
	p.Args = []api.Predicate{never()}
	wants(t, p, r, params, true)
	p.Cmp, p.Args = api.CmpGt, []api.Predicate{always()}
	wants(t, p, r, params, false)
}

// P5.2
func TestHoldsOfOperators(t *testing.T) {
	odd := func(op int, args ...api.Predicate) api.Predicate {
		return api.Predicate{Op: op, Cmp: api.CmpGt, Left: val(num(1)), Right: val(num(2)), Args: args}
	}
	yes, no := always(), never()
	for i, c := range []struct {
		p    api.Predicate
		want bool
	}{
		{yes, true}, {no, false},
		{odd(api.PredTrue, no), true}, {odd(api.PredFalse, yes), false},
		{and(), true}, {and(yes), true}, {and(no), false},
		{and(yes, yes), true}, {and(yes, no), false}, {and(no, yes), false}, {and(no, no), false},
		{and(yes, yes, yes), true}, {and(yes, no, yes), false}, {and(yes, yes, no), false},
		{or(), false}, {or(yes), true}, {or(no), false},
		{or(yes, yes), true}, {or(yes, no), true}, {or(no, yes), true}, {or(no, no), false},
		{or(no, no, no), false}, {or(no, yes, no), true}, {or(no, no, yes), true},
		{odd(api.PredAnd, yes), true}, {odd(api.PredOr, yes), true}, {odd(api.PredNot, no), true},
		{not(yes), false}, {not(no), true}, {not(not(yes)), true}, {not(not(no)), false},
		// Only the first argument of a negation counts.
		{not(yes, no), false}, {not(no, yes), true}, {not(no, no), true}, {not(yes, yes), false},
		// A negation without arguments does not hold, so its negation does.
		{not(), false}, {not(not()), true},
		{and(or(yes, no), not(no)), true}, {or(and(yes, no), not(yes)), false}, {and(or(), yes), false}, {or(and(), no), true},
		{api.Predicate{Args: []api.Predicate{yes}}, false}, {odd(7, yes), false}, {odd(-1, yes), false}, {odd(math.MinInt), false}, {odd(math.MaxInt), false},
		{not(odd(7, yes)), true}, {and(yes, api.Predicate{}), false}, {or(api.Predicate{}, yes), true},
	} {
		for _, r := range []api.Row{nil, row(num(1))} {
			if got := predicate.Holds(c.p, r, r); got != c.want {
				t.Errorf("%d: Holds = %v", i, got)
			}
		}
	}
}

// The example of the chapter.
func TestExample(t *testing.T) {
	less, atLeast := compare(col(0), api.CmpLt, val(num(5))), compare(col(0), api.CmpGe, val(num(5)))
	wants(t, less, row(num(3)), nil, true)
	wants(t, less, row(hidden()), nil, false)
	wants(t, atLeast, row(hidden()), nil, false)
}

// P5.3
func TestBind(t *testing.T) {
	params := []api.Value{num(1), text("x"), hidden(), {Kind: 9, Int: 3}}
	last := api.Operand{Kind: api.OperandParam, Index: 3, Value: num(8)}
	for i, c := range []struct{ o, want api.Operand }{
		{par(0), val(num(1))},
		{par(1), val(text("x"))},
		{par(2), val(hidden())},
		{last, val(api.Value{Kind: 9, Int: 3})},
		{par(4), par(4)},
		{par(-1), par(-1)},
		{par(math.MinInt), par(math.MinInt)},
		{par(math.MaxInt), par(math.MaxInt)},
		{api.Operand{Kind: api.OperandParam, Index: 4, Value: num(8)}, api.Operand{Kind: api.OperandParam, Index: 4, Value: num(8)}},
		{col(0), col(0)},
		{api.Operand{Kind: api.OperandColumn, Index: 1, Value: num(8)}, api.Operand{Kind: api.OperandColumn, Index: 1, Value: num(8)}},
		{val(num(7)), val(num(7))},
		{api.Operand{Kind: api.OperandValue, Index: 1, Value: num(8)}, api.Operand{Kind: api.OperandValue, Index: 1, Value: num(8)}},
		{api.Operand{}, api.Operand{}},
		{api.Operand{Kind: 4, Index: 1}, api.Operand{Kind: 4, Index: 1}},
	} {
		// P5.7: in nodes with any operator, and below them.
		for _, op := range []int{api.PredTrue, api.PredFalse, api.PredCompare, api.PredAnd, api.PredOr, api.PredNot, 0, -1, 7} {
			plain := api.Operand{Kind: api.OperandColumn, Index: 5}
			with := func(o api.Operand) api.Predicate {
				inner := api.Predicate{Op: op, Cmp: 9, Left: o, Right: plain, Args: []api.Predicate{compare(plain, api.CmpLe, o)}}
				return api.Predicate{Op: op, Cmp: 2, Left: plain, Right: o, Args: []api.Predicate{always(), inner, {Left: o, Right: o}}}
			}
			if got, want := predicate.Bind(with(c.o), params), with(c.want); !reflect.DeepEqual(got, want) {
				t.Errorf("%d: Bind = %v, want %v", i, got, want)
			}
		}
	}
	p := or(compare(par(0), api.CmpEq, col(2)), not(par0AndCol()))
	if got := predicate.Bind(p, nil); !reflect.DeepEqual(got, p) {
		t.Errorf("Bind without parameters = %v, want %v", got, p)
	}
	if got := predicate.Bind(api.Predicate{}, params); !reflect.DeepEqual(got, api.Predicate{}) {
		t.Errorf("Bind of the zero predicate = %v", got)
	}
}

func par0AndCol() api.Predicate { return and(compare(par(0), api.CmpNe, col(1))) }

// P5.3 with R2: the arguments stay as they are, and no memory is shared.
func TestBindSharesNoMemory(t *testing.T) {
	args := append(make([]api.Predicate, 0, 4), par0AndCol(), par0AndCol(), never())[:2]
	p := or(args...)
	p.Args = append(make([]api.Predicate, 0, 4), and(args...), and(args...))
	params := append(make([]api.Value, 0, 2), num(1), num(2))[:1]
	bound, again := predicate.Bind(p, params), predicate.Bind(p, params)
	whole := and(compare(val(num(1)), api.CmpNe, col(1)))
	want := or(and(whole, whole), and(whole, whole))
	if !reflect.DeepEqual(bound, want) {
		t.Fatalf("Bind = %v, want %v", bound, want)
	}
	bound.Args[0].Args[0].Args[0].Cmp = 77
	bound.Args[0].Args[1] = api.Predicate{Op: 78}
	_ = append(bound.Args[0].Args, api.Predicate{Op: 79})
	_ = append(bound.Args, api.Predicate{Op: 80})
	params[0] = num(3)
	if !reflect.DeepEqual(again, want) {
		t.Errorf("the other result is now %v", again)
	}
	if !reflect.DeepEqual(bound.Args[1], want.Args[1]) {
		t.Errorf("another part of the result is now %v", bound.Args[1])
	}
	if !reflect.DeepEqual(p, or(and(args...), and(args...))) || !reflect.DeepEqual(args[:3], []api.Predicate{par0AndCol(), par0AndCol(), never()}) {
		t.Errorf("the argument is now %v, with %v", p, args[:3])
	}
	if !reflect.DeepEqual(p.Args[:4][2:], []api.Predicate{{}, {}}) || params[:2][1] != num(2) {
		t.Error("unused capacity of an argument is now used")
	}
}

// P5.4
func TestColumns(t *testing.T) {
	leaf := compare(col(3), api.CmpEq, col(1))
	other := func(op int) api.Predicate {
		return api.Predicate{Op: op, Left: col(7), Right: col(8), Args: []api.Predicate{always(), leaf}}
	}
	for i, c := range []struct {
		p    api.Predicate
		want []int
	}{
		{always(), nil}, {never(), nil}, {and(), nil}, {api.Predicate{}, nil},
		{compare(col(0), api.CmpEq, val(num(1))), []int{0}},
		{compare(val(num(1)), api.CmpEq, col(0)), []int{0}},
		{compare(par(0), api.CmpEq, val(num(1))), nil},
		{compare(col(2), api.CmpEq, par(5)), []int{2}},
		{leaf, []int{1, 3}},
		{compare(col(4), api.CmpEq, col(4)), []int{4}},
		{compare(col(-1), api.CmpEq, col(5)), []int{5}},
		{compare(col(5), api.CmpEq, col(-1)), []int{5}},
		{compare(col(math.MinInt), api.CmpEq, col(math.MaxInt)), []int{math.MaxInt}},
		{compare(col(20), 99, col(10)), []int{10, 20}},
		{compare(api.Operand{Kind: api.OperandColumn, Index: 6, Value: num(2)}, 0, api.Operand{Kind: 4, Index: 9}), []int{6}},
		{compare(api.Operand{Index: 6}, 0, api.Operand{Kind: api.OperandValue, Index: 9}), nil},
		{and(compare(col(9), api.CmpEq, col(0)), not(or(compare(col(10), api.CmpEq, par(0)), leaf, compare(col(9), api.CmpLt, col(2))))), []int{0, 1, 2, 3, 9, 10}},
		// P5.7: nodes below any node, whatever its operator is; the operands of nodes that are no comparison do not count.
		{other(api.PredTrue), []int{1, 3}}, {other(api.PredFalse), []int{1, 3}}, {other(api.PredAnd), []int{1, 3}}, {other(api.PredOr), []int{1, 3}},
		{other(api.PredNot), []int{1, 3}}, {other(0), []int{1, 3}}, {other(7), []int{1, 3}}, {other(-1), []int{1, 3}},
		{other(api.PredCompare), []int{1, 3, 7, 8}},
		{not(other(api.PredTrue), other(api.PredCompare)), []int{1, 3, 7, 8}},
	} {
		if got := predicate.Columns(c.p); !slices.Equal(got, c.want) {
			t.Errorf("%d: Columns = %v, want %v", i, got, c.want)
		}
	}
	first, second := predicate.Columns(leaf), predicate.Columns(leaf)
	first[0] = 100
	if second[0] != 1 {
		t.Error("two results of Columns share memory")
	}
}

// P5.5
func TestEqual(t *testing.T) {
	build := func() api.Predicate {
		return or(compare(col(1), api.CmpEq, val(text("a"))), not(and(compare(par(0), api.CmpNe, col(2)), always())), never())
	}
	if !predicate.Equal(build(), build()) || !predicate.Equal(api.Predicate{}, api.Predicate{}) {
		t.Error("equal predicates are not Equal")
	}
	if !predicate.Equal(and(), api.Predicate{Op: api.PredAnd, Args: []api.Predicate{}}) || !predicate.Equal(api.Predicate{Args: []api.Predicate{}}, api.Predicate{}) {
		t.Error("Equal: a nil list is not an empty one")
	}
	changes := []func(p *api.Predicate){
		func(p *api.Predicate) { p.Op++ },
		func(p *api.Predicate) { p.Cmp++ },
		func(p *api.Predicate) { p.Left.Kind++ },
		func(p *api.Predicate) { p.Left.Index++ },
		func(p *api.Predicate) { p.Left.Value.Kind++ },
		func(p *api.Predicate) { p.Left.Value.Int++ },
		func(p *api.Predicate) { p.Left.Value.Text += "\x00" },
		func(p *api.Predicate) { p.Right.Kind++ },
		func(p *api.Predicate) { p.Right.Index++ },
		func(p *api.Predicate) { p.Right.Value.Kind++ },
		func(p *api.Predicate) { p.Right.Value.Int++ },
		func(p *api.Predicate) { p.Right.Value.Text += "\x00" },
		func(p *api.Predicate) { p.Args = append(slices.Clone(p.Args), api.Predicate{}) },
		func(p *api.Predicate) { p.Args = append([]api.Predicate{{}}, p.Args...) },
	}
	nodes := []func(p *api.Predicate) *api.Predicate{
		func(p *api.Predicate) *api.Predicate { return p },
		func(p *api.Predicate) *api.Predicate { return &p.Args[0] },
		func(p *api.Predicate) *api.Predicate { return &p.Args[1] },
		func(p *api.Predicate) *api.Predicate { return &p.Args[1].Args[0] },
		func(p *api.Predicate) *api.Predicate { return &p.Args[1].Args[0].Args[0] },
		func(p *api.Predicate) *api.Predicate { return &p.Args[1].Args[0].Args[1] },
		func(p *api.Predicate) *api.Predicate { return &p.Args[2] },
	}
	for i, node := range nodes {
		for j, change := range changes {
			changed := build()
			change(node(&changed))
			if predicate.Equal(build(), changed) || predicate.Equal(changed, build()) || !predicate.Equal(changed, changed) {
				t.Errorf("Equal: wrong with the change %d of the node %d", j, i)
			}
		}
	}
	// Not the same tree, though the same holds of both.
	for _, pair := range [][2]api.Predicate{
		{and(always(), never()), and(never(), always())},
		{and(always()), always()},
		{and(and(always()), always()), and(and(), always(), always())},
		{compare(col(0), api.CmpEq, col(1)), compare(col(1), api.CmpEq, col(0))},
		{and(), or()},
	} {
		if predicate.Equal(pair[0], pair[1]) {
			t.Errorf("Equal(%v, %v) = true", pair[0], pair[1])
		}
	}
}

// checked returns a random predicate that Check accepts for the columns and parameters of these kinds.
func checked(random *rand.Rand, columns, params []int, depth int) api.Predicate {
	side := func(kind int) api.Operand {
		for {
			switch random.Intn(3) {
			case 0:
				if i := random.Intn(len(columns)); columns[i] == kind {
					return col(i)
				}
			case 1:
				if i := random.Intn(len(params)); params[i] == kind {
					return par(i)
				}
			case 2:
				return val(realValue(random, kind))
			}
		}
	}
	op := 1 + random.Intn(6)
	if depth == 1 {
		op = api.PredCompare
	}
	p := api.Predicate{Op: op}
	switch op {
	case api.PredCompare:
		kind := kb + random.Intn(3)
		return compare(side(kind), 1+random.Intn(6), side(kind))
	case api.PredNot:
		return not(checked(random, columns, params, depth-1))
	case api.PredAnd, api.PredOr:
		for range random.Intn(3) {
			p.Args = append(p.Args, checked(random, columns, params, depth-1))
		}
	}
	return p
}

func realValue(random *rand.Rand, kind int) api.Value {
	n := random.Int63n(3)
	switch kind {
	case kb:
		return api.Value{Kind: kb, Int: n % 2}
	case ki:
		return num(n)
	}
	return text(repeat("a", int(n)))
}

func someValue(random *rand.Rand, kind int) api.Value {
	if random.Intn(3) > 0 {
		return realValue(random, kind)
	}
	return []api.Value{missing(), hidden(), num(1), text("a"), {Kind: 9}}[random.Intn(5)]
}

func someValues(random *rand.Rand, kinds []int) []api.Value {
	var list []api.Value
	for _, kind := range kinds {
		list = append(list, someValue(random, kind))
	}
	return list
}

// P5.6
func TestConsequences(t *testing.T) {
	random := rand.New(rand.NewSource(5))
	columns, params := []int{ki, kt, kb, ki, kt}, []int{kt, ki, kb, ki}
	both := [2]int{}
	for range 20000 {
		p := checked(random, columns, params, 4)
		if errno := predicate.Check(columns, params, p); errno != api.OK {
			t.Fatalf("Check of %v = %d", p, errno)
		}
		r, given := someValues(random, columns), someValues(random, params)
		holds := predicate.Holds(p, r, given)
		if holds {
			both[1]++
		} else {
			both[0]++
		}
		other := someValues(random, columns)
		for _, c := range predicate.Columns(p) {
			other[c] = r[c]
		}
		if predicate.Holds(p, other, given) != holds {
			t.Fatalf("%v: Holds of %v and %v differ", p, r, other)
		}
		bound := predicate.Bind(p, given)
		for _, rest := range [][]api.Value{nil, given, someValues(random, params), someValues(random, append(params, params...))} {
			if predicate.Holds(bound, r, rest) != holds {
				t.Fatalf("%v: Holds with the parameters %v is %v, and bound to them, with %v, it is not", p, given, holds, rest)
			}
		}
		if !predicate.Equal(bound, predicate.Bind(bound, someValues(random, params))) || !slices.Equal(predicate.Columns(bound), predicate.Columns(p)) {
			t.Fatalf("%v: Bind makes %v", p, bound)
		}
	}
	if min(both[0], both[1]) < 2000 {
		t.Errorf("of the predicates %d do not hold and %d do", both[0], both[1])
	}
}

// P5.2, by value.Compare: the comparisons of random values agree with the order of the values.
func TestHoldsAgreesWithCompare(t *testing.T) {
	random := rand.New(rand.NewSource(6))
	for range 20000 {
		kind := kb + random.Intn(3)
		a, b := realValue(random, kind), realValue(random, kind)
		for cmp, sides := range outcomes() {
			if predicate.Holds(compare(val(a), cmp, val(b)), nil, nil) != sides[value.Compare(a, b)+1] {
				t.Fatalf("%v compared by %d with %v", a, cmp, b)
			}
		}
	}
}

// R1 and R8: predicates with very many levels or arguments.
func TestLargePredicates(t *testing.T) {
	leaf := compare(col(0), api.CmpEq, par(0))
	deep := under(1<<16-1, leaf)
	wide := and(slices.Repeat([]api.Predicate{leaf}, 1<<18)...)
	for i, c := range []struct {
		p     api.Predicate
		holds bool
	}{{deep, false}, {wide, true}} {
		bound := predicate.Bind(c.p, []api.Value{num(1)})
		if predicate.Holds(c.p, row(num(1)), []api.Value{num(1)}) != c.holds || predicate.Holds(bound, row(num(1)), nil) != c.holds {
			t.Errorf("%d: Holds = %v", i, !c.holds)
		}
		if !predicate.Equal(c.p, c.p) || predicate.Equal(c.p, bound) || !slices.Equal(predicate.Columns(c.p), []int{0}) {
			t.Errorf("%d: Equal or Columns is wrong", i)
		}
		if errno := predicate.Check([]int{ki}, []int{ki}, c.p); errno != api.ErrLimit {
			t.Errorf("%d: Check = %d", i, errno)
		}
	}
}

// R2: no function changes its arguments, nor the unused capacity of these.
func TestArgumentsStay(t *testing.T) {
	build := func() (api.Predicate, []int, api.Row, []api.Value) {
		args := []api.Predicate{compare(col(1), api.CmpLt, par(1)), not(compare(col(0), api.CmpEq, col(0))), always(), never()}
		return or(args[:3]...), []int{ki, kt, kb, kb}[:2:4], row(num(1), text("a"), no(), no())[:2:4], []api.Value{num(2), text("b"), yes(), yes()}[:2:4]
	}
	p, kinds, r, params := build()
	predicate.Check(kinds, kinds, p)
	predicate.Holds(p, r, params)
	predicate.Bind(p, params)
	predicate.Columns(p)
	predicate.Equal(p, p)
	wantP, wantKinds, wantR, wantParams := build()
	if !reflect.DeepEqual(p.Args[:4], wantP.Args[:4]) || !slices.Equal(kinds[:4], wantKinds[:4]) || !slices.Equal(r[:4], wantR[:4]) || !slices.Equal(params[:4], wantParams[:4]) {
		t.Error("an argument has changed")
	}
}
