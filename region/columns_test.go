package region_test

import (
	"math"
	"math/rand/v2"
	"slices"
	"testing"

	"partsync/api"
	"partsync/interval"
	"partsync/region"
)

// at returns the columns of the grid with these indices.
func (g grid) at(columns []int) grid {
	var h grid
	for _, c := range columns {
		h = append(h, g[c])
	}
	return h
}

// chosen returns the elements of the row at the columns.
func chosen(r api.Row, columns []int) api.Row {
	var c api.Row
	for _, i := range columns {
		c = append(c, r[i])
	}
	return c
}

// choose returns the set of the cells whose least rows are wanted.
func (g grid) choose(want func(r api.Row) bool) []bool {
	set := make([]bool, g.cells())
	for cell := range set {
		set[cell] = want(g.row(cell))
	}
	return set
}

// rowsOf returns the least rows of the cells of the set.
func (g grid) rowsOf(set []bool) []api.Row {
	var rows []api.Row
	for cell, in := range set {
		if in {
			rows = append(rows, g.row(cell))
		}
	}
	return rows
}

// arrangements lists the lists of different columns below width.
func arrangements(width int) [][]int {
	all := [][]int{nil}
	for i := 0; i < len(all); i++ {
		for c := range width {
			if !slices.Contains(all[i], c) {
				all = append(all, append(slices.Clone(all[i]), c))
			}
		}
	}
	return all
}

// smallGrids are of widths 0 to 3, and have few sets.
func smallGrids() []grid {
	return []grid{{}, intGrid(3), {row(missing(), num(0), greatest()), row(missing(), yes())}, intGrid(2, 2, 2)}
}

// P4.6: the projections of all sets that respect a small grid.
func TestProjectAndForAll(t *testing.T) {
	for _, g := range smallGrids() {
		for _, set := range subsets(g.cells()) {
			r, inside, outside := g.region(set), g.rowsOf(set), g.rowsOf(combined(set, set, func(in, _ bool) bool { return !in }))
			for _, columns := range arrangements(len(g)) {
				stands := func(rows []api.Row, cells api.Row) bool {
					return slices.ContainsFunc(rows, func(u api.Row) bool { return slices.Equal(chosen(u, columns), cells) })
				}
				h := g.at(columns)
				got, errno := region.Project(r, columns)
				check(t, "Project", []any{r, columns}, got, errno, h.region(h.choose(func(cells api.Row) bool { return stands(inside, cells) })), api.OK)
				got, errno = region.ForAll(r, columns)
				check(t, "ForAll", []any{r, columns}, got, errno, h.region(h.choose(func(cells api.Row) bool { return !stands(outside, cells) })), api.OK)
			}
		}
	}
}

// P4.7: all ways to lift all sets that respect a small grid.
func TestLift(t *testing.T) {
	for _, g := range smallGrids() {
		for width := len(g); width <= 4; width++ {
			for _, columns := range arrangements(width) {
				if len(columns) != len(g) {
					continue
				}
				h := slices.Repeat(grid{row(missing())}, width)
				for i, c := range columns {
					h[c] = g[i]
				}
				for _, set := range subsets(g.cells()) {
					r, rows := g.region(set), g.rowsOf(set)
					want := h.choose(func(u api.Row) bool {
						return slices.ContainsFunc(rows, func(cells api.Row) bool { return slices.Equal(chosen(u, columns), cells) })
					})
					got, errno := region.Lift(r, columns, width)
					check(t, "Lift", []any{r, columns, width}, got, errno, h.region(want), api.OK)
				}
			}
		}
	}
}

// P4.8: the products of all pairs of sets that respect small grids.
func TestProduct(t *testing.T) {
	for _, g := range smallGrids()[:3] {
		for _, h := range smallGrids()[:3] {
			for _, a := range subsets(g.cells()) {
				for _, b := range subsets(h.cells()) {
					both := slices.Concat(g, h)
					var want []bool
					for _, inA := range a {
						want = append(want, combined(b, b, func(inB, _ bool) bool { return inA && inB })...)
					}
					got, errno := region.Product(g.region(a), h.region(b))
					check(t, "Product", [2]any{g.region(a), h.region(b)}, got, errno, both.region(want), api.OK)
				}
			}
		}
	}
}

// P4.10: Lift stands between Project and ForAll as a Galois connection.
func TestGaloisConnection(t *testing.T) {
	g := intGrid(2, 3, 2)
	r := rand.New(rand.NewPCG(4, 12))
	covers := func(a, b api.Region) bool {
		t.Helper()
		ok, errno := region.Covers(a, b)
		if errno != api.OK {
			t.Fatalf("Covers(%v, %v): error %d", a, b, errno)
		}
		return ok
	}
	counts := map[[2]bool]int{}
	for range 100 {
		u := g.region(randomSet(r, g))
		for _, columns := range arrangements(3) {
			least, _ := region.Project(u, columns)
			greatest, _ := region.ForAll(u, columns)
			other := g.at(columns).region(randomSet(r, g.at(columns)))
			for _, x := range []api.Region{other, least, greatest} {
				lifted, _ := region.Lift(x, columns, 3)
				above, below := covers(lifted, u), covers(u, lifted)
				if above != covers(x, least) || below != covers(greatest, x) {
					t.Errorf("%v and %v on %v: the least is %v, the greatest %v", u, x, columns, least, greatest)
				}
				counts[[2]bool{above, below}]++
			}
		}
	}
	if len(counts) != 4 {
		t.Errorf("not all cases arose: %v", counts)
	}
}

// boxesOf lists the boxes of r, in their order.
func boxesOf(r api.Region) [][][]api.Interval {
	if r.Width == 0 && r.Full {
		return [][][]api.Interval{nil}
	}
	var all [][][]api.Interval
	for _, p := range r.Parts {
		for _, sets := range boxesOf(p.Rest) {
			all = append(all, append([][]api.Interval{p.Values}, sets...))
		}
	}
	return all
}

// united returns the union of boxes one after another, ErrLimit if it is too large at any time.
func (g grid) united(boxes [][][]api.Interval) (api.Region, api.Errno) {
	set := make([]bool, g.cells())
	for _, sets := range boxes {
		inBox := g.choose(func(r api.Row) bool {
			for i, cell := range r {
				if !interval.Has(sets[i], cell) {
					return false
				}
			}
			return true
		})
		set = combined(set, inBox, func(before, now bool) bool { return before || now })
		if !isCanonical(g.region(set)) {
			return api.Region{}, api.ErrLimit
		}
	}
	return g.region(set), api.OK
}

// projected is Project by united.
func (g grid) projected(r api.Region, columns []int) (api.Region, api.Errno) {
	boxes := boxesOf(r)
	for i, sets := range boxes {
		boxes[i] = nil
		for _, c := range columns {
			boxes[i] = append(boxes[i], sets[c])
		}
	}
	return g.at(columns).united(boxes)
}

// forAll is ForAll by united.
func (g grid) forAll(set []bool, columns []int) (api.Region, api.Errno) {
	not := func(in, _ bool) bool { return !in }
	outside, errno := limited(g.region(combined(set, set, not)))
	if errno != api.OK {
		return outside, errno
	}
	missed, errno := g.projected(outside, columns)
	if errno != api.OK {
		return missed, errno
	}
	h := g.at(columns)
	return limited(h.region(h.choose(func(r api.Row) bool { return !region.Has(missed, r) })))
}

// lifted is Lift by united; the grid is that of the result.
func (g grid) lifted(r api.Region, columns []int) (api.Region, api.Errno) {
	boxes := boxesOf(r)
	for i, sets := range boxes {
		boxes[i] = slices.Repeat([][]api.Interval{every()}, len(g))
		for j, c := range columns {
			boxes[i][c] = sets[j]
		}
	}
	return g.united(boxes)
}

// P4.6 and P4.7: larger regions, some with results, or unions on the way to them, that are too large.
func TestColumnsOfLargeRegions(t *testing.T) {
	r := rand.New(rand.NewPCG(4, 13))
	counts := map[string]int{}
	count := func(name string, errno api.Errno) {
		if errno != api.OK {
			name += " too large"
		}
		counts[name]++
	}
	for range 400 {
		g := [...]grid{intGrid(30, 12), intGrid(4, 4, 4, 4), intGrid(3, 16, 16), intGrid(6, 90, 3)}[r.IntN(4)]
		set := randomSet(r, g)
		u := g.region(set)
		if !isCanonical(u) {
			continue
		}
		columns := r.Perm(len(g))[:r.IntN(len(g)+1)]
		want, wantErrno := g.projected(u, columns)
		got, errno := region.Project(u, columns)
		check(t, "Project", []any{u, columns}, got, errno, want, wantErrno)
		count("Project", errno)
		want, wantErrno = g.forAll(set, columns)
		got, errno = region.ForAll(u, columns)
		check(t, "ForAll", []any{u, columns}, got, errno, want, wantErrno)
		count("ForAll", errno)
		columns = r.Perm(len(g) + 1)[:len(g)]
		h := slices.Repeat(grid{row(missing())}, len(g)+1)
		for i, c := range columns {
			h[c] = g[i]
		}
		want, wantErrno = h.lifted(u, columns)
		got, errno = region.Lift(u, columns, len(h))
		check(t, "Lift", []any{u, columns}, got, errno, want, wantErrno)
		count("Lift", errno)
	}
	if len(counts) != 6 || slices.Min([]int{counts["Project too large"], counts["ForAll too large"], counts["Lift too large"]}) < 5 {
		t.Errorf("not all cases arose: %v", counts)
	}
}

// stairs returns n boxes of width 2 of which each overlaps many others: their union has 2n - 1 parts in the first column.
func stairs(n int) []api.Region {
	var l []api.Region
	for i := range int64(n) {
		l = append(l, box(ints(i, i+50), ints(2*i, 2*i+1)))
	}
	return l
}

// numbered returns the region of the regions, one after another, each behind a number in a column of its own.
func numbered(l ...api.Region) api.Region {
	r := api.Region{Width: l[0].Width + 1}
	for i, rest := range l {
		r.Parts = append(r.Parts, part(ints(int64(i), int64(i+1)), rest))
	}
	return r
}

// P4.6: the boxes are united in their order, and each union must have a canonical form.
func TestProjectUnitesBoxByBox(t *testing.T) {
	over := box(ints(-10, 200), ints(-10, 200))
	for i, c := range []struct {
		r     api.Region
		want  api.Region
		errno api.Errno
	}{
		{numbered(append(stairs(17), over)...), api.Region{}, api.ErrLimit},
		{numbered(append([]api.Region{over}, stairs(17)...)...), over, api.OK},
		{numbered(append(stairs(16), over)...), over, api.OK},
		{numbered(box(ints(0, 1), comb(40, 0)), box(ints(0, 1), comb(40, 100)), box(ints(0, 1), ints(-1, 300))), api.Region{}, api.ErrLimit},
		{numbered(box(ints(0, 1), comb(40, 0)), box(ints(0, 1), ints(-1, 300)), box(ints(0, 1), comb(40, 100))), box(ints(0, 1), ints(-1, 300)), api.OK},
		{numbered(box(comb(40, 0), ints(0, 1)), box(comb(40, 100), ints(0, 1)), box(ints(-1, 300), ints(0, 1))), api.Region{}, api.ErrLimit},
	} {
		if !region.Valid(c.r) {
			t.Fatalf("%d: the argument is not canonical", i)
		}
		got, errno := region.Project(c.r, []int{1, 2})
		check(t, "Project", i, got, errno, c.want, c.errno)
	}
	// The boxes of one part come in their order too.
	mixed := tree(part(ints(0, 1), tree(part(comb(40, 0), box(ints(0, 1))), part(comb(40, 100), box(ints(1, 2))), part(ints(500, 501), box(ints(2, 3))))))
	got, errno := region.Project(mixed, []int{0, 1})
	check(t, "Project", mixed, got, errno, api.Region{}, api.ErrLimit)
	got, errno = region.Project(mixed, []int{0, 2})
	check(t, "Project", mixed, got, errno, box(ints(0, 1), ints(0, 3)), api.OK)
}

// P4.6: each of the steps of ForAll must have a canonical form.
func TestForAllTooLarge(t *testing.T) {
	outside := func(r api.Region) api.Region {
		c, errno := region.Complement(r)
		if errno != api.OK {
			t.Fatalf("the complement of %v: error %d", r, errno)
		}
		return c
	}
	for i, c := range []struct {
		r       api.Region
		columns []int
		want    api.Region
		errno   api.Errno
	}{
		// The complement of r is too large, though no row is wanted.
		{diagonal(32, 0), []int{0}, api.Region{}, api.ErrLimit},
		{diagonal(31, 0), []int{0}, api.Region{Width: 1}, api.OK},
		{diagonal(32, 0), nil, api.Region{}, api.ErrLimit},
		// A union on the way is too large, though the last one is not.
		{outside(numbered(box(comb(40, 0)), box(comb(25, 100)), box(ints(-1, 300)))), []int{1}, api.Region{}, api.ErrLimit},
		{outside(numbered(box(comb(40, 0)), box(ints(-1, 300)), box(comb(25, 100)))), []int{1}, outside(box(ints(-1, 300))), api.OK},
		// The complement of the projection is too large, though the projection is not.
		{outside(numbered(box(comb(40, 0)), box(comb(24, 100)))), []int{1}, api.Region{}, api.ErrLimit},
		{outside(numbered(box(comb(40, 0)), box(comb(23, 100)))), []int{1}, outside(box(append(comb(40, 0), comb(23, 100)...))), api.OK},
	} {
		if !region.Valid(c.r) {
			t.Fatalf("%d: the argument is not canonical", i)
		}
		got, errno := region.ForAll(c.r, c.columns)
		check(t, "ForAll", i, got, errno, c.want, c.errno)
	}
}

// P4.7: the boxes are united in their order, and each union must have a canonical form.
func TestLiftTooLarge(t *testing.T) {
	// Seen from the second column, the parts with a 1 there make up sets of 66 intervals, until the last part fills gaps.
	gaps := func(first int64) []api.Interval { return comb(10, first+1) }
	late := tree(part(comb(33, 0), box(ints(1, 3))), part(comb(33, 1000), box(append(ints(1, 2), span(num(3), num(4))))), part(gaps(1000), box(append(ints(1, 2), span(num(4), num(5))))))
	early := tree(part(comb(33, 0), box(ints(1, 3))), part(gaps(0), box(append(ints(1, 2), span(num(4), num(5))))), part(comb(33, 1000), box(append(ints(1, 2), span(num(3), num(4))))))
	for i, c := range []struct {
		r       api.Region
		columns []int
		width   int
		size    int
		errno   api.Errno
	}{
		{late, []int{1, 0}, 2, 0, api.ErrLimit},
		{late, []int{0, 1}, 2, 6, api.OK},
		{early, []int{1, 0}, 2, 8, api.OK},
		{diagonal(32, 0), []int{1, 0}, 2, 64, api.OK},
		{diagonal(32, 0), []int{0, 1}, 3, 0, api.ErrLimit},
		{diagonal(32, 0), []int{1, 2}, 3, 0, api.ErrLimit},
		{diagonal(21, 0), []int{0, 2}, 3, 63, api.OK},
		{diagonal(22, 0), []int{0, 2}, 3, 0, api.ErrLimit},
		{diagonal(31, 0), []int{1, 2}, 3, 63, api.OK},
		{diagonal(5, 0), []int{0, 1}, 12, 60, api.OK},
		{diagonal(6, 0), []int{0, 11}, 12, 0, api.ErrLimit},
	} {
		if !region.Valid(c.r) {
			t.Fatalf("%d: the argument is not canonical", i)
		}
		got, errno := region.Lift(c.r, c.columns, c.width)
		if region.Size(got) != c.size || errno != c.errno || errno != api.OK && !equal(got, api.Region{}) {
			t.Errorf("%d: Lift(%v, %v, %d) = %v, %d, want size %d, %d", i, c.r, c.columns, c.width, got, errno, c.size, c.errno)
		}
	}
}

// P4.8
func TestProductLimits(t *testing.T) {
	for i, c := range []struct {
		a, b  api.Region
		want  api.Region
		errno api.Errno
	}{
		{full(), full(), full(), api.OK},
		{full(), api.Region{}, api.Region{}, api.OK},
		{api.Region{}, api.Region{}, api.Region{}, api.OK},
		{api.Region{}, chain(12), api.Region{Width: 12}, api.OK},
		{chain(12), api.Region{}, api.Region{Width: 12}, api.OK},
		{chain(12), full(), chain(12), api.OK},
		{full(), diagonal(32, 0), diagonal(32, 0), api.OK},
		{diagonal(32, 0), full(), diagonal(32, 0), api.OK},
		{chain(6), chain(6), chain(12), api.OK},
		{chain(6), chain(7), api.Region{}, api.ErrLimit},
		{chain(12), chain(12), api.Region{}, api.ErrLimit},
		{chain(1), chain(12), api.Region{}, api.ErrLimit},
		{api.Region{Width: 7}, chain(6), api.Region{}, api.ErrLimit},
		{chain(1), api.Region{Width: 12}, api.Region{}, api.ErrLimit},
		{api.Region{Width: 12}, api.Region{Width: 12}, api.Region{}, api.ErrLimit},
		{api.Region{Width: 6}, chain(6), api.Region{Width: 12}, api.OK},
		{diagonal(2, 0), api.Region{Width: 2}, api.Region{Width: 4}, api.OK},
		{chain(1), diagonal(31, 0), tree(part(every(), diagonal(31, 0))), api.OK},
		{chain(1), diagonal(32, 0), api.Region{}, api.ErrLimit},
		{diagonal(32, 0), chain(1), api.Region{}, api.ErrLimit},
		{diagonal(32, 0), diagonal(32, 0), api.Region{}, api.ErrLimit},
		{box(comb(64, 0)), box(comb(64, 0)), box(comb(64, 0), comb(64, 0)), api.OK},
		{diagonal(2, 0), box(ints(7, 8)), tree(part(ints(0, 1), box(ints(0, 1), ints(7, 8))), part(ints(1, 2), box(ints(1, 2), ints(7, 8)))), api.OK},
	} {
		got, errno := region.Product(c.a, c.b)
		check(t, "Product", i, got, errno, c.want, c.errno)
	}
	// Of 16 boxes, each followed by one of 2 parts, the size is 16 * 4; of 15 it is 15 * 2, and 15 * 2 more.
	pair := box(ints(1, 2), ints(3, 4))
	if got, errno := region.Product(diagonal(16, 0), pair); region.Size(got) != 64 || errno != api.OK {
		t.Errorf("Product of size %d, %d", region.Size(got), errno)
	}
	if got, errno := region.Product(diagonal(17, 0), pair); !equal(got, api.Region{}) || errno != api.ErrLimit {
		t.Errorf("Product = %v, %d", got, errno)
	}
}

// P4.6: examples of the chapter, and projections of regions of no columns or on none.
func TestExamplesOfColumns(t *testing.T) {
	got, errno := region.ForAll(chain(2), []int{0})
	check(t, "ForAll", "All(2)", got, errno, chain(1), api.OK)
	got, errno = region.ForAll(box(ints(1, 5), ints(2, 3)), []int{0})
	check(t, "ForAll", "a box", got, errno, api.Region{Width: 1}, api.OK)
	got, errno = region.ForAll(box(ints(1, 5), every()), []int{0})
	check(t, "ForAll", "a box", got, errno, box(ints(1, 5)), api.OK)
	for _, c := range []struct{ r, project, forAll api.Region }{
		{api.Region{}, api.Region{}, api.Region{}},
		{full(), full(), full()},
		{api.Region{Width: 12}, api.Region{}, api.Region{}},
		{chain(12), full(), full()},
		{box(ints(1, 2)), full(), api.Region{}},
	} {
		for _, columns := range [][]int{nil, {}} {
			got, errno := region.Project(c.r, columns)
			check(t, "Project", c.r, got, errno, c.project, api.OK)
			got, errno = region.ForAll(c.r, columns)
			check(t, "ForAll", c.r, got, errno, c.forAll, api.OK)
		}
	}
}

// P4.6: a region that is not canonical is seen before the columns, and these before a result that is too large.
func TestWrongColumns(t *testing.T) {
	for _, f := range []func(api.Region, []int) (api.Region, api.Errno){region.Project, region.ForAll} {
		for _, columns := range [][]int{{-1}, {2}, {0, 0}, {1, 0, 1}, {0, 1, 2}, {0, 1, 0, 1}, {math.MinInt}, {math.MaxInt}, {12}, {13}, make([]int, 1000)} {
			for _, r := range []api.Region{{Width: 2}, chain(2), diagonal(32, 0)} {
				got, errno := f(r, columns)
				check(t, "Project or ForAll", columns, got, errno, api.Region{}, api.ErrArg)
			}
			for i, wrong := range wrongRegions() {
				got, errno := f(wrong, columns)
				check(t, "Project or ForAll", i, got, errno, api.Region{}, api.ErrRegion)
			}
		}
		for i, wrong := range wrongRegions() {
			for _, columns := range [][]int{nil, {0}} {
				got, errno := f(wrong, columns)
				check(t, "Project or ForAll", i, got, errno, api.Region{}, api.ErrRegion)
			}
		}
		got, errno := f(full(), []int{0})
		check(t, "Project or ForAll", "width 0", got, errno, api.Region{}, api.ErrArg)
	}
}

// P4.7: a region that is not canonical, or another number of columns, is seen before a width or column that
// is out of range, and these before a result that is too large.
func TestLiftOfWrongArguments(t *testing.T) {
	for i, c := range []struct {
		r       api.Region
		columns []int
		width   int
		want    api.Errno
	}{
		{box(ints(1, 2)), nil, 3, api.ErrRegion},
		{box(ints(1, 2)), []int{0, 1}, 3, api.ErrRegion},
		{box(ints(1, 2)), nil, 13, api.ErrRegion},
		{box(ints(1, 2)), []int{0, 0}, -1, api.ErrRegion},
		{full(), []int{0}, 1, api.ErrRegion},
		{full(), []int{-1}, 13, api.ErrRegion},
		{full(), nil, -1, api.ErrArg},
		{full(), nil, 13, api.ErrArg},
		{api.Region{}, nil, math.MaxInt, api.ErrArg},
		{api.Region{}, nil, math.MinInt, api.ErrArg},
		{box(ints(1, 2)), []int{0}, 13, api.ErrArg},
		{box(ints(1, 2)), []int{12}, 13, api.ErrArg},
		{box(ints(1, 2)), []int{0}, 0, api.ErrArg},
		{box(ints(1, 2)), []int{0}, -1, api.ErrArg},
		{box(ints(1, 2)), []int{-1}, 3, api.ErrArg},
		{box(ints(1, 2)), []int{3}, 3, api.ErrArg},
		{box(ints(1, 2)), []int{12}, 12, api.ErrArg},
		{api.Region{Width: 1}, []int{math.MaxInt}, 12, api.ErrArg},
		{diagonal(32, 0), []int{1, 1}, 3, api.ErrArg},
		{diagonal(32, 0), []int{0, 3}, 3, api.ErrArg},
		{diagonal(32, 0), []int{3, 0}, 3, api.ErrArg},
		{chain(2), []int{0, 1}, 1, api.ErrArg},
	} {
		got, errno := region.Lift(c.r, c.columns, c.width)
		check(t, "Lift", i, got, errno, api.Region{}, c.want)
	}
	for i, wrong := range wrongRegions() {
		for _, columns := range [][]int{nil, {0}, {0, 1}, {0, 0}} {
			for _, width := range []int{-1, 0, 2, 12, 13} {
				got, errno := region.Lift(wrong, columns, width)
				check(t, "Lift", i, got, errno, api.Region{}, api.ErrRegion)
			}
		}
	}
	got, errno := region.Lift(full(), nil, 12)
	check(t, "Lift", "the full region of width 0", got, errno, chain(12), api.OK)
	got, errno = region.Lift(api.Region{}, nil, 12)
	check(t, "Lift", "the empty region of width 0", got, errno, api.Region{Width: 12}, api.OK)
}

// P4.8: a region that is not canonical is seen before a product that is too large.
func TestProductOfWrongArguments(t *testing.T) {
	for i, wrong := range wrongRegions() {
		for _, right := range []api.Region{{}, full(), {Width: 2}, chain(12), diagonal(32, 0), wrong} {
			got, errno := region.Product(wrong, right)
			check(t, "Product", i, got, errno, api.Region{}, api.ErrRegion)
			got, errno = region.Product(right, wrong)
			check(t, "Product", i, got, errno, api.Region{}, api.ErrRegion)
		}
	}
}
