package bounds_test

import (
	"math"
	"reflect"
	"slices"
	"strings"
	"testing"

	"partsync/api"
	"partsync/bounds"
	"partsync/interval"
	"partsync/region"
)

const (
	kb = api.KindBool
	ki = api.KindInt
	kt = api.KindText
)

func missing() api.Value      { return api.Value{Kind: api.KindMissing} }
func hidden() api.Value       { return api.Value{Kind: api.KindHidden} }
func no() api.Value           { return api.Value{Kind: api.KindBool} }
func yes() api.Value          { return api.Value{Kind: api.KindBool, Int: 1} }
func num(n int64) api.Value   { return api.Value{Kind: api.KindInt, Int: n} }
func text(s string) api.Value { return api.Value{Kind: api.KindText, Text: s} }
func greatest() api.Value     { return text(strings.Repeat("\xff", 64)) }

func row(cells ...api.Value) api.Row { return cells }

func col(i int) api.Operand       { return api.Operand{Kind: api.OperandColumn, Index: i} }
func par(i int) api.Operand       { return api.Operand{Kind: api.OperandParam, Index: i} }
func val(v api.Value) api.Operand { return api.Operand{Kind: api.OperandValue, Value: v} }

func compare(left api.Operand, cmp int, right api.Operand) api.Predicate {
	return api.Predicate{Op: api.PredCompare, Cmp: cmp, Left: left, Right: right}
}

// is says that the cell at the column is this int.
func is(column int, n int64) api.Predicate { return compare(col(column), api.CmpEq, val(num(n))) }

// same says that the cells at two columns are equal.
func same(a, b int) api.Predicate { return compare(col(a), api.CmpEq, col(b)) }

func always() api.Predicate { return api.Predicate{Op: api.PredTrue} }
func never() api.Predicate  { return api.Predicate{Op: api.PredFalse} }

func and(args ...api.Predicate) api.Predicate { return api.Predicate{Op: api.PredAnd, Args: args} }
func or(args ...api.Predicate) api.Predicate  { return api.Predicate{Op: api.PredOr, Args: args} }
func not(args ...api.Predicate) api.Predicate { return api.Predicate{Op: api.PredNot, Args: args} }

// of returns n columns of the kind.
func of(kind, n int) []int { return slices.Repeat([]int{kind}, n) }

// either is the Or of conjunctions, each of which fixes some columns to an int of its own.
func either(columns ...[]int) api.Predicate {
	p := or()
	for n, list := range columns {
		p.Args = append(p.Args, and())
		for _, c := range list {
			p.Args[n].Args = append(p.Args[n].Args, is(c, int64(n)))
		}
	}
	return p
}

// also returns p with one more argument in each of its arguments.
func also(extra, p api.Predicate) api.Predicate {
	longer := api.Predicate{Op: p.Op}
	for _, arg := range p.Args {
		longer.Args = append(longer.Args, api.Predicate{Op: arg.Op, Args: slices.Insert(slices.Clone(arg.Args), 0, extra)})
	}
	return longer
}

// box returns the region of this width of the rows whose cells at the columns are in the set.
func box(t *testing.T, width int, set []api.Interval, columns ...int) api.Region {
	t.Helper()
	var sets [][]api.Interval
	for i := range width {
		if slices.Contains(columns, i) {
			sets = append(sets, set)
		} else {
			sets = append(sets, []api.Interval{{From: missing(), Open: true}})
		}
	}
	r, errno := region.Box(sets)
	if errno != api.OK {
		t.Fatalf("Box = %d", errno)
	}
	return r
}

// all and none return the regions of this width with all rows, and without rows.

func all(t *testing.T, width int) api.Region { return box(t, width, nil) }

func none(width int) api.Region { return api.Region{Width: width} }

// ofKind returns the set of the values of the kind.
func ofKind(kind int) []api.Interval {
	return map[int][]api.Interval{
		kb: {{From: no(), To: num(math.MinInt64)}},
		ki: {{From: num(math.MinInt64), To: text("")}},
		kt: {{From: text(""), Open: true}},
	}[kind]
}

// expect checks that Regions returns these regions.
func expect(t *testing.T, columns []int, p api.Predicate, inner, outer api.Region) {
	t.Helper()
	in, out, errno := bounds.Regions(columns, p)
	if errno != api.OK || !region.Equal(in, inner) || !region.Equal(out, outer) {
		t.Errorf("Regions(%v, %v) = %v, %v, %d, want %v, %v", columns, p, in, out, errno, inner, outer)
	}
}

// expectError checks that Regions returns this error, and else zero values.
func expectError(t *testing.T, columns []int, p api.Predicate, want api.Errno) {
	t.Helper()
	in, out, errno := bounds.Regions(columns, p)
	if errno != want || !zero(in) || !zero(out) {
		t.Errorf("Regions(%v, %v) = %v, %v, %d, want the error %d", columns, p, in, out, errno, want)
	}
}

func zero(r api.Region) bool { return r.Width == 0 && !r.Full && len(r.Parts) == 0 }

// P6.1: the errors of the arguments, in their order.
func TestErrors(t *testing.T) {
	tooMany := and(slices.Repeat([]api.Predicate{always()}, 24)...)
	tooDeep := always()
	for range 8 {
		tooDeep = not(tooDeep)
	}
	circle := []api.Predicate{{Op: api.PredAnd}}
	circle[0].Args = circle
	for _, c := range []struct {
		columns []int
		p       api.Predicate
		want    api.Errno
	}{
		// The number of columns comes before all else.
		{of(ki, 13), always(), api.ErrLimit},
		{of(ki, 1000), always(), api.ErrLimit},
		{of(9, 13), always(), api.ErrLimit},
		{append(of(ki, 12), 0), api.Predicate{}, api.ErrLimit},
		{of(kt, 13), is(0, 1), api.ErrLimit},
		// Then comes the error of Check: first the kinds,
		{[]int{0}, always(), api.ErrArg},
		{[]int{9}, always(), api.ErrArg},
		{[]int{-1}, never(), api.ErrArg},
		{[]int{api.KindHidden}, always(), api.ErrArg},
		{[]int{ki, kb, api.KindMissing}, always(), api.ErrArg},
		{append(of(ki, 11), 6), is(0, 1), api.ErrArg},
		{[]int{9}, tooMany, api.ErrArg},
		{[]int{9}, tooDeep, api.ErrArg},
		{[]int{9}, api.Predicate{}, api.ErrArg},
		// then the size,
		{nil, tooMany, api.ErrLimit},
		{[]int{ki}, tooDeep, api.ErrLimit},
		{of(ki, 12), and(tooMany.Args[1:]...), api.OK},
		{nil, tooDeep.Args[0], api.OK},
		{nil, and(append(tooMany.Args, api.Predicate{})...), api.ErrLimit},
		{nil, circle[0], api.ErrLimit},
		// then the nodes.
		{nil, api.Predicate{}, api.ErrPredicate},
		{nil, api.Predicate{Op: 7}, api.ErrPredicate},
		{nil, not(), api.ErrPredicate},
		{nil, not(always(), always()), api.ErrPredicate},
		{nil, api.Predicate{Op: api.PredTrue, Args: []api.Predicate{always()}}, api.ErrPredicate},
		{nil, api.Predicate{Op: api.PredFalse, Cmp: api.CmpEq}, api.ErrPredicate},
		{nil, is(0, 1), api.ErrPredicate},
		{[]int{kt}, is(0, 1), api.ErrPredicate},
		{[]int{ki}, is(1, 1), api.ErrPredicate},
		{[]int{ki}, is(-1, 1), api.ErrPredicate},
		{[]int{ki, kt}, same(0, 1), api.ErrPredicate},
		{[]int{ki}, compare(col(0), 0, val(num(1))), api.ErrPredicate},
		{[]int{ki}, compare(col(0), 7, val(num(1))), api.ErrPredicate},
		{[]int{ki}, compare(col(0), api.CmpEq, val(hidden())), api.ErrPredicate},
		{[]int{ki}, compare(val(missing()), api.CmpEq, val(missing())), api.ErrPredicate},
		{[]int{kt}, compare(col(0), api.CmpLt, val(text(strings.Repeat("a", 65)))), api.ErrPredicate},
		{[]int{ki}, and(always(), or(never(), not(is(1, 1)))), api.ErrPredicate},
		// There are no parameters.
		{[]int{ki}, compare(col(0), api.CmpEq, par(0)), api.ErrPredicate},
		{[]int{ki}, compare(par(0), api.CmpEq, val(num(1))), api.ErrPredicate},
		{[]int{ki}, compare(par(0), api.CmpEq, par(0)), api.ErrPredicate},
		// A region that is too large comes last.
		{of(ki, 12), and(tooLarge(), api.Predicate{}), api.ErrPredicate},
		{append(of(ki, 11), 9), tooLarge(), api.ErrArg},
		{of(ki, 12), tooLarge(), api.ErrLimit},
	} {
		if c.want != api.OK {
			expectError(t, c.columns, c.p, c.want)
		} else if _, _, errno := bounds.Regions(c.columns, c.p); errno != api.OK {
			t.Errorf("Regions(%v, %v) = %d", c.columns, c.p, errno)
		}
	}
}

// tooLarge is a predicate over twelve ints whose regions both have more than MaxParts parts.
func tooLarge() api.Predicate { return either([]int{0, 6}, []int{1, 7}, []int{2, 8}) }

// P6.2
func TestConstants(t *testing.T) {
	for width := range api.MaxWidth + 1 {
		for _, kind := range []int{kb, ki, kt} {
			columns := of(kind, width)
			for _, p := range []api.Predicate{always(), and(), not(never()), not(or()), or(always()), and(always(), and())} {
				expect(t, columns, p, all(t, width), all(t, width))
			}
			for _, p := range []api.Predicate{never(), or(), not(always()), not(and()), and(never()), or(never(), or())} {
				expect(t, columns, p, none(width), none(width))
			}
		}
	}
	// Without columns, the regions still have a row or none.
	if in, out, _ := bounds.Regions(nil, always()); !in.Full || !out.Full {
		t.Error("the regions of true without columns are empty")
	}
}

// P6.2: And, Or and Not of nodes whose two regions are equal, by hand.
func TestOperators(t *testing.T) {
	columns := []int{ki, kt}
	low, small := ints(math.MinInt64, 5), ints(2, 5)
	few := compare(col(0), api.CmpLt, val(num(5)))
	atLeast := compare(col(0), api.CmpGe, val(num(2)))
	a := compare(col(1), api.CmpEq, val(text("a")))
	onlyA := []api.Interval{{From: text("a"), To: text("a\x00")}}
	rows := func(first, second []api.Interval) api.Region {
		r, _ := region.Box([][]api.Interval{first, second})
		return r
	}
	outside, _ := interval.Complement(low)
	for _, c := range []struct {
		p    api.Predicate
		want api.Region
	}{
		{and(few), rows(low, interval.All())},
		{and(few, atLeast), rows(small, interval.All())},
		{and(few, a), rows(low, onlyA)},
		{and(a, few, atLeast), rows(small, onlyA)},
		{and(few, never(), a), none(2)},
		{and(few, is(0, 5)), none(2)},
		{or(few), rows(low, interval.All())},
		{or(few, atLeast), rows(ofKind(ki), interval.All())},
		{or(is(0, 2), is(0, 4), never(), is(0, 3)), rows(small, interval.All())},
		{or(few, always(), a), all(t, 2)},
		{not(few), rows(outside, interval.All())},
		{not(not(few)), rows(low, interval.All())},
		{not(or(not(few), not(a))), rows(low, onlyA)},
		{or(and(few, a), and(few, not(a))), rows(low, interval.All())},
	} {
		expect(t, columns, c.p, c.want, c.want)
	}
}

// ints returns the set of the ints from from on, below to.
func ints(from, to int64) []api.Interval { return []api.Interval{{From: num(from), To: num(to)}} }

// P6.2: And, Or and Not of nodes whose two regions differ, by hand.
func TestOperatorsOnDifferentRegions(t *testing.T) {
	columns := []int{ki, ki, kb}
	low := compare(col(0), api.CmpLt, val(num(5)))
	lows := box(t, 3, ints(math.MinInt64, 5), 0)
	pairs := box(t, 3, ofKind(ki), 0, 1)
	lowPairs, _ := region.Intersect(lows, pairs)
	lowOrPairs, _ := region.Union(lows, pairs)
	noPairs, _ := region.Complement(pairs)
	noLowPairs, _ := region.Complement(lowPairs)
	notLow, _ := region.Complement(lows)
	neither, _ := region.Complement(lowOrPairs)
	for _, c := range []struct {
		p            api.Predicate
		inner, outer api.Region
	}{
		{same(0, 1), none(3), pairs},
		{not(same(0, 1)), noPairs, all(t, 3)},
		{not(not(same(0, 1))), none(3), pairs},
		{and(low, same(0, 1)), none(3), lowPairs},
		{and(same(0, 1), low), none(3), lowPairs},
		{or(low, same(0, 1)), lows, lowOrPairs},
		{or(same(0, 1), low), lows, lowOrPairs},
		{not(and(low, same(0, 1))), noLowPairs, all(t, 3)},
		{not(or(low, same(0, 1))), neither, notLow},
		{and(same(0, 1), not(same(0, 1))), none(3), pairs},
		{or(same(0, 1), not(same(0, 1))), noPairs, all(t, 3)},
		{and(same(0, 1), never()), none(3), none(3)},
		{or(same(0, 1), always()), all(t, 3), all(t, 3)},
	} {
		expect(t, columns, c.p, c.inner, c.outer)
	}
	if region.Equal(noPairs, noLowPairs) || region.Equal(lows, lowPairs) {
		t.Error("the cases do not differ")
	}
}

// The example of chapter 6.
func TestExample(t *testing.T) {
	p := and(compare(col(0), api.CmpLt, val(num(5))), same(0, 1))
	want, _ := region.Box([][]api.Interval{ints(math.MinInt64, 5), ofKind(ki)})
	expect(t, []int{ki, ki}, p, none(2), want)
}

// P6.1 and P6.2: each operation's result must be a region, whatever becomes of it.
func TestTooLarge(t *testing.T) {
	big := either([]int{0, 1, 8}, []int{2, 6})
	for _, c := range []struct {
		name string
		p    api.Predicate
		want api.Errno
	}{
		{"a union", tooLarge(), api.ErrLimit},
		{"a union that a later argument would make small", or(append(tooLarge().Args, always())...), api.ErrLimit},
		{"a union that stays small", or(append([]api.Predicate{always()}, tooLarge().Args...)...), api.OK},
		{"a union that nothing uses", and(never(), tooLarge()), api.ErrLimit},
		{"a union that is in all already", or(always(), tooLarge()), api.ErrLimit},
		{"a union below negations", not(not(tooLarge())), api.ErrLimit},
		{"an intersection", negated(tooLarge()), api.ErrLimit},
		{"an intersection that a later argument would make small", and(append(negated(tooLarge()).Args, never())...), api.ErrLimit},
		{"an intersection that stays small", and(append([]api.Predicate{never()}, negated(tooLarge()).Args...)...), api.OK},
		{"an intersection that nothing uses", or(always(), negated(tooLarge())), api.ErrLimit},
		{"what has a complement that is too large", big, api.OK},
		{"a complement", not(big), api.ErrLimit},
		{"a complement of a complement", not(not(big)), api.ErrLimit},
		{"a complement that nothing uses", and(never(), not(big)), api.ErrLimit},
		{"a complement that is in all already", or(always(), not(big)), api.ErrLimit},

		{"an outer union", also(same(10, 11), tooLarge()), api.ErrLimit},
		{"an outer union of 64 parts", or(append([]api.Predicate{same(10, 11)}, either([]int{0, 7}, []int{1, 8}).Args...)...), api.OK},
		{"an outer union of more parts", or(append([]api.Predicate{same(10, 11)}, either([]int{0, 6}, []int{1, 7}).Args...)...), api.ErrLimit},
		{"an inner union", or(append([]api.Predicate{not(same(10, 11))}, either([]int{0, 8}, []int{1, 9}).Args...)...), api.ErrLimit},
		{"an inner intersection", also(not(same(10, 11)), negated(either([]int{0, 6}, []int{1, 7}))), api.ErrLimit},
		{"an inner intersection without the extra argument", negated(either([]int{0, 6}, []int{1, 7})), api.OK},
		{"an outer intersection", also(same(10, 11), negated(either([]int{0, 6}, []int{1, 7}))), api.ErrLimit},
		{"an outer intersection of fewer parts", also(same(10, 11), negated(either([]int{0, 8}, []int{1, 9}))), api.OK},
		{"what has an outer complement that is too large", or(and(same(10, 11), is(2, 0), is(0, 0)), and(is(9, 1), is(3, 1))), api.OK},
		{"an inner complement", not(or(and(same(10, 11), is(2, 0), is(0, 0)), and(is(9, 1), is(3, 1)))), api.ErrLimit},
		{"what has an inner complement that is too large", or(and(not(same(0, 6)), is(1, 0)), and(is(9, 1), is(2, 1))), api.OK},
		{"an outer complement", not(or(and(not(same(0, 6)), is(1, 0)), and(is(9, 1), is(2, 1)))), api.ErrLimit},
	} {
		in, out, errno := bounds.Regions(of(ki, 12), c.p)
		if errno != c.want || errno == api.OK && !(region.Valid(in) && region.Valid(out)) || errno != api.OK && !(zero(in) && zero(out)) {
			t.Errorf("%s: Regions = %v, %v, %d, want %d", c.name, in, out, errno, c.want)
		}
	}
	_, out, _ := bounds.Regions(of(ki, 12), or(append([]api.Predicate{same(10, 11)}, either([]int{0, 7}, []int{1, 8}).Args...)...))
	if region.Size(out) != api.MaxParts {
		t.Errorf("the outer union of 64 parts has %d", region.Size(out))
	}
}

// negated returns an And of disjunctions, which holds of the rows of ints for which the Or of conjunctions does not hold.
func negated(either api.Predicate) api.Predicate {
	p := and()
	for _, conjunction := range either.Args {
		others := or()
		for _, arg := range conjunction.Args {
			arg.Cmp = api.CmpNe
			others.Args = append(others.Args, arg)
		}
		p.Args = append(p.Args, others)
	}
	return p
}

// R2: the regions share no memory with each other, nor with the regions of another call.
func TestMemory(t *testing.T) {
	columns := []int{ki, ki, kt, kt}
	a := compare(val(text("a")), api.CmpNe, col(2))
	var predicates []api.Predicate
	for _, p := range []api.Predicate{
		always(), never(), is(0, 1), a, compare(val(num(3)), api.CmpLt, col(0)), compare(val(num(1)), api.CmpLt, val(num(2))), compare(col(2), api.CmpLe, col(2)),
		same(0, 1), same(3, 2), compare(col(1), api.CmpGt, col(0)),
		and(a), or(a), and(a, is(0, 1)), or(a, is(0, 1)), and(same(0, 1), a), or(same(0, 1), a),
		or(a, a), and(a, a), or(and(is(0, 1), a), and(is(1, 1), a), same(2, 3)),
	} {
		predicates = append(predicates, p, not(p), and(p), or(p))
	}
	for _, p := range predicates {
		var places []any
		for range 2 {
			in, out, errno := bounds.Regions(columns, p)
			if errno != api.OK {
				t.Fatalf("Regions(%v) = %d", p, errno)
			}
			places = append(append(places, memory(in)...), memory(out)...)
		}
		seen := map[any]bool{}
		for _, place := range places {
			if seen[place] {
				t.Errorf("Regions(%v): memory is shared", p)
				break
			}
			seen[place] = true
		}
	}
}

// memory lists pointers to all that the region keeps in lists, unused capacity included.
func memory(r api.Region) []any {
	var places []any
	whole := r.Parts[:cap(r.Parts)]
	for i := range whole {
		places = append(places, &whole[i])
	}
	for _, part := range r.Parts {
		values := part.Values[:cap(part.Values)]
		for i := range values {
			places = append(places, &values[i])
		}
		places = append(places, memory(part.Rest)...)
	}
	return places
}

// R2: the arguments stay as they are, unused capacity included.
func TestArgumentsStay(t *testing.T) {
	build := func() ([]int, api.Predicate) {
		args := []api.Predicate{is(0, 1), not(same(0, 1)), always(), never()}
		return []int{ki, ki, 99, 98}[:2:4], or(and(args[:2]...), and(args[:3]...))
	}
	columns, p := build()
	want, _, _ := bounds.Regions(columns, p)
	wantColumns, wantP := build()
	if !slices.Equal(columns[:4], wantColumns[:4]) || !reflect.DeepEqual(p, wantP) || !reflect.DeepEqual(p.Args[0].Args[:4], wantP.Args[0].Args[:4]) {
		t.Error("an argument has changed")
	}
	columns[0] = kt
	p.Args[0].Args[0] = never()
	columns, p = build()
	if again, _, _ := bounds.Regions(columns, p); !region.Equal(want, again) {
		t.Errorf("the result was %v, and is now %v", want, again)
	}
}
