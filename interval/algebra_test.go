package interval_test

import (
	"math/rand/v2"
	"slices"
	"testing"

	"partsync/api"
	"partsync/interval"
)

// operation is one of those that make a list of two.
type operation struct {
	name string
	f    func(a, b []api.Interval) ([]api.Interval, api.Errno)
	want func(inA, inB bool) bool
}

func operations() []operation {
	return []operation{
		{"Union", interval.Union, func(inA, inB bool) bool { return inA || inB }},
		{"Intersect", interval.Intersect, func(inA, inB bool) bool { return inA && inB }},
		{"Minus", interval.Minus, func(inA, inB bool) bool { return inA && !inB }},
	}
}

// segments returns the list of the set that contains the values from cuts[i] on to the next cut if in[i]
// holds, and no others; nothing is above the last cut but what belongs to it. The cuts ascend.
func segments(cuts []api.Value, in []bool) []api.Interval {
	var l []api.Interval
	for i, from := range cuts {
		switch {
		case in[i] && (i == 0 || !in[i-1]):
			l = append(l, open(from))
		case !in[i] && i > 0 && in[i-1]:
			l[len(l)-1] = span(l[len(l)-1].From, from)
		}
	}
	return l
}

// combined applies want to each pair.
func combined(a, b []bool, want func(inA, inB bool) bool) []bool {
	c := make([]bool, len(a))
	for i := range c {
		c[i] = want(a[i], b[i])
	}
	return c
}

// subsets returns each choice among n things.
func subsets(n int) [][]bool {
	var all [][]bool
	for mask := range 1 << n {
		in := make([]bool, n)
		for i := range in {
			in[i] = mask>>i&1 == 1
		}
		all = append(all, in)
	}
	return all
}

// checkOperations compares the operations on the sets of segments a and b with those on the choices.
func checkOperations(t *testing.T, cuts []api.Value, a, b []bool) {
	t.Helper()
	l, m := segments(cuts, a), segments(cuts, b)
	for _, op := range operations() {
		want, wantErrno := segments(cuts, combined(a, b, op.want)), api.OK
		if len(want) > 64 {
			want, wantErrno = nil, api.ErrLimit
		}
		got, errno := op.f(l, m)
		check(t, op.name, [][]api.Interval{l, m}, got, errno, want, wantErrno)
	}
	rest := combined(b, a, func(inB, inA bool) bool { return inB && !inA })
	if covers, errno := interval.Covers(l, m); covers == slices.Contains(rest, true) || errno != api.OK {
		t.Errorf("Covers(%v, %v) = %v, %d", l, m, covers, errno)
	}
}

// cuts are values of all kinds; the first one is the least of all, the last one the greatest.
func cuts() []api.Value {
	return []api.Value{missing(), yes(), num(-1), num(0), text(""), text("a"), greatest()}
}

// P3.4, P3.5 and P3.7: all pairs of sets that begin and end at seven cuts.
func TestAlgebra(t *testing.T) {
	choices := subsets(len(cuts()))
	for _, a := range choices {
		for _, b := range choices {
			checkOperations(t, cuts(), a, b)
		}
	}
}

// P3.4
func TestComplement(t *testing.T) {
	for _, in := range subsets(len(cuts())) {
		l := segments(cuts(), in)
		out := combined(in, in, func(inside, _ bool) bool { return !inside })
		got, errno := interval.Complement(l)
		check(t, "Complement", l, got, errno, segments(cuts(), out), api.OK)
	}
}

// P3.3, P3.4: a value is in a result exactly if the operation wants it there.
func TestMembers(t *testing.T) {
	lists := rightLists()
	points := append(values(), num(2), num(3), num(4), num(5), num(9), num(19), num(20), num(1000))
	for _, a := range lists {
		for _, b := range lists {
			for _, op := range operations() {
				got, errno := op.f(a, b)
				if errno == api.ErrLimit {
					continue
				}
				for _, v := range points {
					if interval.Has(got, v) != op.want(interval.Has(a, v), interval.Has(b, v)) {
						t.Errorf("%s(%v, %v) = %v, which is wrong about %v", op.name, a, b, got, v)
					}
				}
			}
		}
	}
}

// randomChoice returns a choice that has long and short runs.
func randomChoice(r *rand.Rand, n, run int) []bool {
	in := make([]bool, n)
	inside := false
	for i := range in {
		if r.IntN(run) == 0 {
			inside = !inside
		}
		in[i] = inside
	}
	return in
}

// P3.4 and P3.5: longer lists, some with results that are too long.
func TestAlgebraOfLongLists(t *testing.T) {
	r := rand.New(rand.NewPCG(3, 7))
	var points []api.Value
	for n := range int64(160) {
		points = append(points, num(n))
	}
	for range 3000 {
		a, b := randomChoice(r, len(points), 1+r.IntN(6)), randomChoice(r, len(points), 1+r.IntN(6))
		if len(segments(points, a)) <= 64 && len(segments(points, b)) <= 64 {
			checkOperations(t, points, a, b)
		}
	}
}

// P3.4: the examples of the chapter.
func TestExamples(t *testing.T) {
	a, _ := interval.Between(num(1), num(3))
	b, _ := interval.Between(num(3), num(5))
	got, errno := interval.Union(a, b)
	check(t, "Union", [][]api.Interval{a, b}, got, errno, list(ints(1, 5)), api.OK)
	got, errno = interval.Complement(interval.All())
	check(t, "Complement", "All", got, errno, nil, api.OK)
	got, errno = interval.Complement(nil)
	check(t, "Complement", nil, got, errno, interval.All(), api.OK)
	texts, _ := interval.OfKind(api.KindText)
	from, _ := interval.From(text("b"))
	got, errno = interval.Intersect(texts, from)
	check(t, "Intersect", [][]api.Interval{texts, from}, got, errno, list(open(text("b"))), api.OK)
}

// threes returns n intervals of three ints each, so that those of threes(n, 0) and threes(m, 2) overlap in one int each.
func threes(n int, first int64) []api.Interval {
	var l []api.Interval
	for i := range int64(n) {
		l = append(l, ints(first+4*i, first+4*i+3))
	}
	return l
}

// P3.4: a result may have 64 intervals, and no more.
func TestLimit(t *testing.T) {
	least := span(missing(), hidden())
	for i, c := range []struct {
		f     func(a, b []api.Interval) ([]api.Interval, api.Errno)
		a, b  []api.Interval
		count int
		errno api.Errno
	}{
		{interval.Union, comb(32, 0), comb(32, 1000), 64, api.OK},
		{interval.Union, comb(32, 0), comb(33, 1000), 0, api.ErrLimit},
		{interval.Union, comb(64, 0), comb(64, 0), 64, api.OK},
		{interval.Union, comb(64, 0), comb(64, 1), 64, api.OK},
		{interval.Union, comb(64, 0), comb(64, 1000), 0, api.ErrLimit},
		{interval.Union, comb(64, 0), list(ints(-5, -4)), 0, api.ErrLimit},
		{interval.Union, list(open(text("a"))), comb(64, 0), 0, api.ErrLimit},
		{interval.Union, comb(64, 0), list(ints(2, 4)), 63, api.OK},
		{interval.Union, comb(64, 0), comb(64, 2), 1, api.OK},
		{interval.Intersect, threes(33, 0), threes(32, 2), 64, api.OK},
		{interval.Intersect, threes(33, 0), threes(33, 2), 0, api.ErrLimit},
		{interval.Intersect, threes(64, 0), threes(64, 2), 0, api.ErrLimit},
		{interval.Intersect, comb(64, 0), comb(64, 0), 64, api.OK},
		{interval.Minus, interval.All(), comb(63, 0), 64, api.OK},
		{interval.Minus, interval.All(), comb(64, 0), 0, api.ErrLimit},
		{interval.Minus, threes(64, 0), comb(64, 2), 64, api.OK},
		{interval.Minus, threes(64, 0), list(ints(1, 2)), 0, api.ErrLimit},
		{complement, comb(63, 0), nil, 64, api.OK},
		{complement, comb(64, 0), nil, 0, api.ErrLimit},
		{complement, append(list(least), comb(63, 0)...), nil, 64, api.OK},
		{complement, append(comb(63, 0), open(num(1000))), nil, 64, api.OK},
		{complement, slices.Concat(list(least), comb(62, 0), list(open(num(1000)))), nil, 63, api.OK},
	} {
		got, errno := c.f(c.a, c.b)
		if len(got) != c.count || !interval.Valid(got) || errno != c.errno {
			t.Errorf("%d: %v, %d, want %d intervals, %d", i, got, errno, c.count, c.errno)
		}
	}
}

// complement is Complement of its first argument.
func complement(a, _ []api.Interval) ([]api.Interval, api.Errno) {
	return interval.Complement(a)
}

// P3.5: what is not covered may be more than any list can hold.
func TestCovers(t *testing.T) {
	for i, c := range []struct {
		a, b []api.Interval
		want bool
	}{
		{nil, nil, true},
		{nil, list(), true},
		{comb(64, 0), nil, true},
		{nil, list(ints(1, 2)), false},
		{list(ints(1, 3), ints(5, 9)), list(ints(6, 9)), true},
		{list(ints(1, 3), ints(5, 9)), list(ints(6, 10)), false},
		{list(ints(1, 3), ints(5, 9)), list(ints(2, 6)), false},
		{list(ints(1, 3), ints(5, 9)), list(ints(1, 2), ints(5, 6), ints(8, 9)), true},
		{list(ints(1, 3)), list(ints(0, 3)), false},
		{interval.All(), comb(64, 0), true},
		{interval.All(), list(open(greatest())), true},
		{list(span(missing(), greatest())), interval.All(), false},
		{comb(64, 0), comb(64, 0), true},
		{comb(64, 0), comb(63, 4), true},
		{comb(63, 4), comb(64, 0), false},
		{comb(64, 0), interval.All(), false},
		{comb(64, 1000), threes(64, 0), false},
		{comb(64, 1), interval.All(), false},
	} {
		if got, errno := interval.Covers(c.a, c.b); got != c.want || errno != api.OK {
			t.Errorf("%d: Covers(%v, %v) = %v, %d", i, c.a, c.b, got, errno)
		}
	}
}

// P3.4 and P3.5: an argument that is not canonical is seen before a result that is too long.
func TestWrongArguments(t *testing.T) {
	for _, wrong := range wrongLists() {
		for _, right := range [][]api.Interval{nil, interval.All(), comb(64, 1000), wrong} {
			for _, op := range operations() {
				got, errno := op.f(wrong, right)
				check(t, op.name, [][]api.Interval{wrong, right}, got, errno, nil, api.ErrInterval)
				got, errno = op.f(right, wrong)
				check(t, op.name, [][]api.Interval{right, wrong}, got, errno, nil, api.ErrInterval)
			}
			if covers, errno := interval.Covers(wrong, right); covers || errno != api.ErrInterval {
				t.Errorf("Covers(%v, %v) = %v, %d", wrong, right, covers, errno)
			}
			if covers, errno := interval.Covers(right, wrong); covers || errno != api.ErrInterval {
				t.Errorf("Covers(%v, %v) = %v, %d", right, wrong, covers, errno)
			}
		}
		got, errno := interval.Complement(wrong)
		check(t, "Complement", wrong, got, errno, nil, api.ErrInterval)
	}
}

// results calls everything that makes a list, most of it so that the list is the argument a.
func results(a []api.Interval) [][]api.Interval {
	one, _ := interval.One(num(1))
	between, _ := interval.Between(num(1), num(2))
	from, _ := interval.From(num(1))
	kind, _ := interval.OfKind(api.KindInt)
	rest, _ := interval.Complement(a)
	all := [][]api.Interval{interval.All(), interval.All(), one, between, from, kind, rest}
	for _, op := range operations() {
		for _, b := range [][]api.Interval{nil, a, interval.All()} {
			left, _ := op.f(a, b)
			right, _ := op.f(b, a)
			all = append(all, left, right)
		}
	}
	return all
}

// R2: no argument changes, unused capacity included, and each result is memory of its own.
func TestResultsAreNewMemory(t *testing.T) {
	room := comb(8, 0)
	a := room[:3]
	before := slices.Clone(room)
	made := results(a)
	interval.Covers(a, a)
	interval.Has(a, num(1))
	interval.Least(a)
	mark := func(i int) api.Interval { return ints(int64(i), int64(i)) }
	for i, l := range made {
		l = l[:cap(l)]
		for j := range l {
			l[j] = mark(i)
		}
	}
	if !slices.Equal(room, before) {
		t.Errorf("the argument became %v", room)
	}
	for i, l := range made {
		for _, piece := range l {
			if piece != mark(i) {
				t.Errorf("result %d shares memory with another one: %v", i, l)
			}
		}
	}
}
