package region_test

import (
	"math/rand/v2"
	"slices"
	"testing"

	"partsync/api"
	"partsync/interval"
	"partsync/region"
)

// grid divides all rows into cells: in each column the values from a cut on, below the next one, behave
// alike. The first cut is the least value. The sets of rows that respect the grid are lists of a bool for
// each cell; the cells with the same first coordinate stand together.
type grid [][]api.Value

func (g grid) cells() int {
	n := 1
	for _, cuts := range g {
		n *= len(cuts)
	}
	return n
}

// intGrid returns a grid that has these numbers of cuts, at ints but for the first one in each column.
func intGrid(counts ...int) grid {
	var g grid
	for _, n := range counts {
		cuts := row(missing())
		for i := range int64(n - 1) {
			cuts = append(cuts, num(i))
		}
		g = append(g, cuts)
	}
	return g
}

// row returns the least row of a cell of the grid.
func (g grid) row(cell int) api.Row {
	r := make(api.Row, len(g))
	for i := len(g) - 1; i >= 0; i-- {
		r[i] = g[i][cell%len(g[i])]
		cell /= len(g[i])
	}
	return r
}

// region returns the canonical form of the set, but for the limits.
func (g grid) region(set []bool) api.Region {
	if len(g) == 0 {
		return api.Region{Full: set[0]}
	}
	r := api.Region{Width: len(g)}
	var rests [][]bool
	for i, rest := range slices.Collect(slices.Chunk(set, grid(g[1:]).cells())) {
		if !slices.Contains(rest, true) {
			continue
		}
		at := slices.IndexFunc(rests, func(other []bool) bool { return slices.Equal(rest, other) })
		if at < 0 {
			at = len(rests)
			rests = append(rests, rest)
			r.Parts = append(r.Parts, part(nil, g[1:].region(rest)))
		}
		r.Parts[at].Values = extended(r.Parts[at].Values, g[0], i)
	}
	return r
}

// extended returns the set with the values from the cut i on, below the next one.
func extended(set []api.Interval, cuts []api.Value, i int) []api.Interval {
	if len(set) == 0 || set[len(set)-1].To != cuts[i] {
		set = append(set, api.Interval{From: cuts[i]})
	}
	last := &set[len(set)-1]
	if i+1 < len(cuts) {
		last.To = cuts[i+1]
	} else {
		last.To, last.Open = api.Value{}, true
	}
	return set
}

// weight returns the size of r, and the number of intervals of its longest set.
func weight(r api.Region) (size, longest int) {
	for _, p := range r.Parts {
		n, m := weight(p.Rest)
		size += n + 1
		longest = max(longest, m, len(p.Values))
	}
	return size, longest
}

// limited returns r, or ErrLimit if it has no canonical form.
func limited(r api.Region) (api.Region, api.Errno) {
	if size, longest := weight(r); size > 64 || longest > 64 {
		return api.Region{}, api.ErrLimit
	}
	return r, api.OK
}

func isCanonical(r api.Region) bool {
	_, errno := limited(r)
	return errno == api.OK
}

// operation is one of those that make a region of two.
type operation struct {
	name string
	f    func(a, b api.Region) (api.Region, api.Errno)
	want func(inA, inB bool) bool
}

func operations() []operation {
	return []operation{
		{"Union", region.Union, func(inA, inB bool) bool { return inA || inB }},
		{"Intersect", region.Intersect, func(inA, inB bool) bool { return inA && inB }},
		{"Minus", region.Minus, func(inA, inB bool) bool { return inA && !inB }},
		{"Complement", complement, func(inA, _ bool) bool { return !inA }},
	}
}

// combined applies want to each pair.
func combined(a, b []bool, want func(inA, inB bool) bool) []bool {
	c := make([]bool, len(a))
	for i := range c {
		c[i] = want(a[i], b[i])
	}
	return c
}

// covered reports whether every cell of b is one of a.
func covered(a, b []bool) bool {
	return !slices.Contains(combined(a, b, func(inA, inB bool) bool { return inB && !inA }), true)
}

// checkOperations compares the operations on two sets with those on their cells; it returns how often the result was too large.
func checkOperations(t *testing.T, g grid, a, b []bool) (refused int) {
	t.Helper()
	r, s := g.region(a), g.region(b)
	for _, op := range operations() {
		want, wantErrno := limited(g.region(combined(a, b, op.want)))
		got, errno := op.f(r, s)
		check(t, op.name, [2]api.Region{r, s}, got, errno, want, wantErrno)
		if wantErrno != api.OK {
			refused++
		}
	}
	if covers, errno := region.Covers(r, s); covers != covered(a, b) || errno != api.OK {
		t.Errorf("Covers(%v, %v) = %v, %d", r, s, covers, errno)
	}
	return refused
}

// subsets returns each choice among n things.
func subsets(n int) [][]bool {
	var all [][]bool
	for mask := range 1 << n {
		in := make([]bool, n)
		for i := range in {
			in[i] = mask>>i&1 == 1
		}
		all = append(all, in)
	}
	return all
}

// P4.4, P4.5 and P4.10: all pairs of sets that respect a small grid.
func TestAlgebra(t *testing.T) {
	for _, g := range []grid{
		{},
		{row(missing(), hidden(), text("a"), greatest())},
		{row(missing(), num(0), greatest()), row(missing(), yes())},
		{row(missing(), text("b")), row(missing(), num(1), num(2))},
		{row(missing(), num(1)), row(missing(), num(1)), row(missing())},
		{row(missing()), row(missing(), num(1)), row(missing(), hidden())},
	} {
		choices := subsets(g.cells())
		for _, a := range choices {
			for _, b := range choices {
				checkOperations(t, g, a, b)
			}
		}
	}
}

// P4.1, P4.3, P4.9 and P4.10: each set that respects a small grid has one canonical region, whose rows are those of its cells.
func TestRowsOfEachSet(t *testing.T) {
	for _, g := range []grid{{}, intGrid(4), intGrid(3, 3), intGrid(2, 2, 2)} {
		sets := subsets(g.cells())
		for n, set := range sets {
			r := g.region(set)
			if !region.Valid(r) {
				t.Fatalf("%v is not canonical", r)
			}
			for cell, in := range set {
				if region.Has(r, g.row(cell)) != in {
					t.Errorf("Has(%v, %v) = %v", r, g.row(cell), !in)
				}
			}
			least, ok := region.Least(r)
			first := slices.Index(set, true)
			if ok != (first >= 0) || ok && !slices.Equal(least, g.row(first)) {
				t.Errorf("Least(%v) = %v, %v", r, least, ok)
			}
			if other := g.region(sets[(n+1)%len(sets)]); region.Equal(r, other) || !region.Equal(r, g.region(set)) {
				t.Errorf("Equal is wrong about %v and %v", r, other)
			}
		}
	}
}

// randomRun makes choices of which now few, now many differ from the one before; at least one is true.
func randomRun(r *rand.Rand, n int) []bool {
	in := make([]bool, n)
	change, inside := r.Float64(), r.IntN(2) == 0
	for i := range in {
		if r.Float64() < change {
			inside = !inside
		}
		in[i] = inside
	}
	if !slices.Contains(in, true) {
		in[r.IntN(n)] = true
	}
	return in
}

// randomBox chooses the cells whose coordinates are all among those chosen for their columns.
func randomBox(r *rand.Rand, g grid) []bool {
	in := []bool{true}
	for i := len(g) - 1; i >= 0; i-- {
		rest := in
		in = nil
		for _, chosen := range randomRun(r, len(g[i])) {
			in = append(in, combined(rest, rest, func(inRest, _ bool) bool { return chosen && inRest })...)
		}
	}
	return in
}

// randomSet chooses the cells of an odd number of some boxes.
func randomSet(r *rand.Rand, g grid) []bool {
	in := make([]bool, g.cells())
	for range 1 + r.IntN(6) {
		in = combined(in, randomBox(r, g), func(before, inBox bool) bool { return before != inBox })
	}
	return in
}

// P4.4 and P4.5: larger regions of several widths, some with results that are too large.
func TestAlgebraOfLargeRegions(t *testing.T) {
	r := rand.New(rand.NewPCG(4, 10))
	for _, c := range []struct {
		g     grid
		limit bool
	}{
		{intGrid(230), true},
		{intGrid(50, 9), true},
		{intGrid(6, 40), false},
		{intGrid(220, 2), true},
		{intGrid(2, 200), true},
		{intGrid(7, 7, 7), true},
		{intGrid(4, 4, 4, 4), true},
		{intGrid(3, 3, 2, 3, 3), true},
		{intGrid(1, 3, 2, 1, 3, 1, 3, 1, 1, 2, 1, 3), true},
	} {
		refused, checked := 0, 0
		for range 250 {
			a, b := randomSet(r, c.g), randomSet(r, c.g)
			if isCanonical(c.g.region(a)) && isCanonical(c.g.region(b)) {
				refused += checkOperations(t, c.g, a, b)
				checked++
			}
		}
		if checked < 30 || (refused > 0) != c.limit {
			t.Errorf("of the results of %d pairs %d were too large", checked, refused)
		}
	}
}

// P4.4: the examples of the chapter.
func TestExamples(t *testing.T) {
	seven, _ := interval.One(num(7))
	got, errno := region.Union(box(ints(1, 3)), box(seven))
	check(t, "Union", 1, got, errno, box(list(span(num(1), num(3)), span(num(7), num(8)))), api.OK)
	got, errno = region.Union(box(ints(1, 3), ints(5, 7)), box(ints(3, 5), ints(5, 7)))
	check(t, "Union", 2, got, errno, box(ints(1, 5), ints(5, 7)), api.OK)
	got, errno = region.Union(box(ints(1, 3), ints(5, 7)), box(ints(3, 5), ints(7, 9)))
	check(t, "Union", 3, got, errno, tree(part(ints(1, 3), box(ints(5, 7))), part(ints(3, 5), box(ints(7, 9)))), api.OK)
	if region.Size(got) != 4 {
		t.Errorf("Size = %d", region.Size(got))
	}
}

// complement is Complement of its first argument.
func complement(a, _ api.Region) (api.Region, api.Errno) {
	return region.Complement(a)
}

// P4.4: a result may have 64 parts and sets of 64 intervals, and no more.
func TestLimits(t *testing.T) {
	all := chain(2)
	for i, c := range []struct {
		f             func(a, b api.Region) (api.Region, api.Errno)
		a, b          api.Region
		size, longest int
		errno         api.Errno
	}{
		{region.Union, diagonal(16, 0), diagonal(16, 16), 64, 1, api.OK},
		{region.Union, diagonal(17, 0), diagonal(16, 17), 0, 0, api.ErrLimit},
		{region.Union, diagonal(32, 0), diagonal(32, 0), 64, 1, api.OK},
		{region.Union, diagonal(32, 0), all, 2, 1, api.OK},
		{region.Minus, all, diagonal(31, 0), 64, 2, api.OK},
		{region.Minus, all, diagonal(32, 0), 0, 0, api.ErrLimit},
		{complement, diagonal(31, 0), api.Region{}, 64, 2, api.OK},
		{complement, diagonal(32, 0), api.Region{}, 0, 0, api.ErrLimit},
		// The parts of all levels count together.
		{region.Union, tree(part(ints(1, 2), diagonal(15, 0))), tree(part(ints(2, 3), diagonal(16, 0))), 64, 1, api.OK},
		{region.Union, tree(part(ints(1, 2), diagonal(16, 0))), tree(part(ints(2, 3), diagonal(16, 1))), 0, 0, api.ErrLimit},
		{region.Union, tree(part(ints(1, 2), diagonal(16, 0))), tree(part(ints(2, 3), diagonal(16, 0))), 33, 1, api.OK},
		{region.Union, tree(part(ints(1, 2), diagonal(16, 0))), tree(part(ints(1, 2), diagonal(15, 20))), 63, 1, api.OK},
		{region.Union, tree(part(ints(1, 2), diagonal(16, 0))), tree(part(ints(1, 2), diagonal(16, 16))), 0, 0, api.ErrLimit},
		// Sets that are too long, on the first level and below.
		{region.Union, box(comb(32, 0)), box(comb(32, 100)), 1, 64, api.OK},
		{region.Union, box(comb(32, 0)), box(comb(33, 100)), 0, 0, api.ErrLimit},
		{region.Union, box(comb(64, 0)), box(comb(64, 1)), 1, 1, api.OK},
		{region.Union, box(ints(1, 2), comb(32, 0)), box(ints(1, 2), comb(33, 100)), 0, 0, api.ErrLimit},
		{region.Union, box(ints(1, 2), comb(32, 0)), box(ints(2, 3), comb(33, 100)), 4, 33, api.OK},
		{region.Union, box(comb(32, 0), ints(1, 2)), box(comb(33, 100), ints(1, 2)), 0, 0, api.ErrLimit},
		{region.Union, box(comb(32, 0), ints(1, 2)), box(comb(33, 100), ints(1, 3)), 4, 33, api.OK},
		{region.Minus, chain(1), box(comb(63, 0)), 1, 64, api.OK},
		{region.Minus, chain(1), box(comb(64, 0)), 0, 0, api.ErrLimit},
		{region.Minus, all, box(comb(64, 0), every()), 0, 0, api.ErrLimit},
		{complement, box(comb(64, 0), every()), api.Region{}, 0, 0, api.ErrLimit},
		{complement, box(every(), comb(64, 0)), api.Region{}, 0, 0, api.ErrLimit},
		{complement, box(comb(63, 0), comb(63, 0)), api.Region{}, 4, 64, api.OK},
		// What a and b have in common is 127 intervals, which is no matter where it is not all of the result.
		{region.Union, box(threes(64, 0), ints(1, 2)), box(threes(64, 2), ints(1, 2)), 2, 1, api.OK},
		{region.Intersect, box(threes(64, 0)), box(threes(64, 2)), 0, 0, api.ErrLimit},
		{region.Minus, box(ints(0, 1000)), box(threes(64, 2)), 0, 0, api.ErrLimit},
	} {
		got, errno := c.f(c.a, c.b)
		size, longest := weight(got)
		if !region.Valid(c.a) || !region.Valid(c.b) && c.b.Width > 0 {
			t.Errorf("%d: an argument is not canonical", i)
		}
		if size != c.size || longest != c.longest || errno != c.errno || errno != api.OK && !equal(got, api.Region{}) || !region.Valid(got) {
			t.Errorf("%d: %v of size %d with %d intervals, %d, want size %d, %d intervals, %d", i, got, size, longest, errno, c.size, c.longest, c.errno)
		}
	}
}

// P4.4: rests that consist of the same sets in the same order, but not in the same parts, are different.
func TestRestsOfTheSameSets(t *testing.T) {
	one, two, three, four := ints(1, 2), ints(2, 3), ints(3, 4), ints(4, 5)
	a := tree(part(one, tree(part(one, box(one)), part(two, box(two)))), part(three, box(three, four)))
	b := tree(part(one, box(one, one)), part(two, tree(part(two, box(three)), part(three, box(four)))))
	got, errno := region.Union(tree(part(one, a)), tree(part(two, b)))
	check(t, "Union", [2]api.Region{a, b}, got, errno, tree(part(one, a), part(two, b)), api.OK)
}

// P4.5: what is not covered may be more than any region can hold.
func TestCovers(t *testing.T) {
	for i, c := range []struct {
		a, b api.Region
		want bool
	}{
		{api.Region{}, api.Region{}, true},
		{full(), api.Region{}, true},
		{api.Region{}, full(), false},
		{full(), full(), true},
		{diagonal(32, 0), api.Region{Width: 2}, true},
		{api.Region{Width: 2}, diagonal(32, 0), false},
		{chain(2), diagonal(32, 0), true},
		{diagonal(32, 0), chain(2), false},
		{diagonal(32, 0), diagonal(31, 1), true},
		{diagonal(31, 1), diagonal(32, 0), false},
		{diagonal(32, 100), diagonal(32, 0), false},
		{box(comb(64, 0)), chain(1), false},
		{box(comb(64, 0)), box(comb(64, 0)), true},
		{box(ints(1, 5), ints(1, 5)), box(ints(2, 3), ints(4, 5)), true},
		{box(ints(1, 5), ints(1, 5)), box(ints(2, 3), ints(4, 6)), false},
		{chain(12), box(slices.Repeat([][]api.Interval{comb(64, 0)}, 12)...), true},
		{box(slices.Repeat([][]api.Interval{comb(64, 0)}, 12)...), chain(12), false},
	} {
		if got, errno := region.Covers(c.a, c.b); got != c.want || errno != api.OK {
			t.Errorf("%d: Covers(%v, %v) = %v, %d", i, c.a, c.b, got, errno)
		}
	}
}

// P4.4 and P4.5: an argument that is not canonical, or of another width, is seen before a result that is too large.
func TestWrongArguments(t *testing.T) {
	refuse := func(a, b api.Region) {
		t.Helper()
		for _, op := range operations()[:3] {
			got, errno := op.f(a, b)
			check(t, op.name, "wrong arguments", got, errno, api.Region{}, api.ErrRegion)
		}
		if covers, errno := region.Covers(a, b); covers || errno != api.ErrRegion {
			t.Errorf("Covers of wrong arguments = %v, %d", covers, errno)
		}
	}
	for _, wrong := range wrongRegions() {
		refuse(wrong, wrong)
		for _, right := range rightRegions() {
			if right.r.Width == wrong.Width || right.size == 64 {
				refuse(wrong, right.r)
				refuse(right.r, wrong)
			}
		}
		got, errno := region.Complement(wrong)
		check(t, "Complement", "a wrong argument", got, errno, api.Region{}, api.ErrRegion)
	}
	for width := range 12 {
		refuse(chain(width), chain(width+1))
		refuse(chain(width+1), chain(width))
		refuse(api.Region{Width: width}, api.Region{Width: width + 1})
	}
	refuse(full(), diagonal(32, 0))
}

// P4.10: the laws of a Boolean algebra, on regions that are small enough.
func TestLaws(t *testing.T) {
	r := rand.New(rand.NewPCG(4, 11))
	must := func(got api.Region, errno api.Errno) api.Region {
		t.Helper()
		if errno != api.OK {
			t.Fatalf("error %d", errno)
		}
		return got
	}
	g := intGrid(3, 3, 2)
	for range 300 {
		a, b, c := g.region(randomSet(r, g)), g.region(randomSet(r, g)), g.region(randomSet(r, g))
		not := must(region.Complement(a))
		for i, pair := range [][2]api.Region{
			{must(region.Complement(not)), a},
			{must(region.Union(a, not)), chain(3)},
			{must(region.Intersect(a, not)), {Width: 3}},
			{must(region.Union(a, b)), must(region.Union(b, a))},
			{must(region.Minus(a, b)), must(region.Intersect(a, must(region.Complement(b))))},
			{must(region.Complement(must(region.Union(a, b)))), must(region.Intersect(not, must(region.Complement(b))))},
			{must(region.Intersect(a, must(region.Union(b, c)))), must(region.Union(must(region.Intersect(a, b)), must(region.Intersect(a, c))))},
		} {
			if !region.Equal(pair[0], pair[1]) {
				t.Errorf("law %d does not hold of %v, %v, %v", i, a, b, c)
			}
		}
	}
}
