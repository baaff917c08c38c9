package region_test

import (
	"math"
	"slices"
	"strings"
	"testing"

	"partsync/api"
	"partsync/interval"
	"partsync/region"
	"partsync/value"
)

func missing() api.Value         { return api.Value{Kind: api.KindMissing} }
func hidden() api.Value          { return api.Value{Kind: api.KindHidden} }
func yes() api.Value             { return api.Value{Kind: api.KindBool, Int: 1} }
func num(n int64) api.Value      { return api.Value{Kind: api.KindInt, Int: n} }
func text(s string) api.Value    { return api.Value{Kind: api.KindText, Text: s} }
func greatest() api.Value        { return text(strings.Repeat("\xff", 64)) }
func row(v ...api.Value) api.Row { return v }

func span(from, to api.Value) api.Interval { return api.Interval{From: from, To: to} }

func open(from api.Value) api.Interval { return api.Interval{From: from, Open: true} }

func list(l ...api.Interval) []api.Interval { return l }

// ints returns the set of the ints from from on, below to.
func ints(from, to int64) []api.Interval { return list(span(num(from), num(to))) }

// every returns the set of all values.
func every() []api.Interval { return list(open(missing())) }

// comb returns the set of n ints: first, and every second one from there.
func comb(n int, first int64) []api.Interval {
	var l []api.Interval
	for i := range int64(n) {
		l = append(l, span(num(first+2*i), num(first+2*i+1)))
	}
	return l
}

// threes returns the set of n intervals of three ints, one from every fourth int from first on.
func threes(n int, first int64) []api.Interval {
	var l []api.Interval
	for i := range int64(n) {
		l = append(l, span(num(first+4*i), num(first+4*i+3)))
	}
	return l
}

func full() api.Region { return api.Region{Full: true} }

func part(values []api.Interval, rest api.Region) api.Part {
	return api.Part{Values: values, Rest: rest}
}

// tree returns the region of these parts.
func tree(parts ...api.Part) api.Region {
	return api.Region{Width: parts[0].Rest.Width + 1, Parts: parts}
}

// box returns the region of the box, written out; no set is empty.
func box(sets ...[]api.Interval) api.Region {
	r := full()
	for _, set := range slices.Backward(sets) {
		r = tree(part(set, r))
	}
	return r
}

// diagonal returns n boxes of one int from first on in both columns; its size is 2n.
func diagonal(n int, first int64) api.Region {
	r := api.Region{Width: 2}
	for i := first; i < first+int64(n); i++ {
		r.Parts = append(r.Parts, part(ints(i, i+1), box(ints(i, i+1))))
	}
	return r
}

// equal reports whether the regions are the same tree; a nil slice is an empty one.
func equal(a, b api.Region) bool {
	if a.Width != b.Width || a.Full != b.Full || len(a.Parts) != len(b.Parts) {
		return false
	}
	for i, p := range a.Parts {
		if !slices.Equal(p.Values, b.Parts[i].Values) || !equal(p.Rest, b.Parts[i].Rest) {
			return false
		}
	}
	return true
}

// check compares a result with the region that is wanted, or with the error if one is.
func check(t *testing.T, name string, of any, got api.Region, errno api.Errno, want api.Region, wantErrno api.Errno) {
	t.Helper()
	if !equal(got, want) || errno != wantErrno {
		t.Errorf("%s of %v = %v, %d, want %v, %d", name, of, got, errno, want, wantErrno)
	}
}

// chain returns the region of all rows of this width.
func chain(width int) api.Region {
	var sets [][]api.Interval
	for range width {
		sets = append(sets, every())
	}
	return box(sets...)
}

// sized is a region and its size.
type sized struct {
	size int
	r    api.Region
}

// rightRegions are canonical.
func rightRegions() []sized {
	var right []sized
	add := func(size int, r api.Region) { right = append(right, sized{size, r}) }
	add(0, api.Region{})
	add(0, full())
	add(0, api.Region{Full: true, Parts: []api.Part{}})
	for width := 1; width <= 12; width++ {
		add(0, api.Region{Width: width})
		add(width, chain(width))
	}
	add(1, box(comb(64, 0)))
	add(1, box(append(comb(63, 0), open(num(1000)))))
	add(2, box(comb(64, 0), comb(64, 0)))
	add(64, diagonal(32, 0))
	add(4, tree(part(ints(1, 3), box(ints(5, 7))), part(ints(3, 5), box(ints(7, 9)))))
	add(4, tree(part(list(span(num(1), num(2)), span(num(5), num(6))), box(ints(5, 7))), part(ints(3, 4), box(ints(7, 9)))))
	add(5, tree(part(every(), diagonal(2, 0))))
	add(63, tree(part(every(), diagonal(31, 0))))
	add(8, tree(part(ints(1, 2), diagonal(1, 0)), part(ints(2, 3), diagonal(2, 0))))
	add(64, tree(part(ints(1, 2), diagonal(1, 0)), part(ints(2, 3), diagonal(30, 0))))
	// The same row stands below several parts, but never the same rest.
	add(8, tree(part(ints(1, 2), diagonal(2, 0)), part(ints(2, 3), diagonal(1, 0))))
	add(8, tree(part(ints(1, 2), tree(part(ints(0, 1), box(ints(5, 6))))), part(ints(2, 3), tree(part(ints(0, 1), box(ints(5, 7))), part(ints(3, 4), box(ints(5, 6)))))))
	// Two sets of 64 intervals each between which nothing is in common, though their bounds are.
	add(4, tree(part(comb(64, 0), box(ints(1, 2))), part(comb(64, 1), box(ints(3, 4)))))
	add(4, tree(part(comb(64, 0), box(ints(1, 2))), part(list(open(text(""))), box(every()))))
	return right
}

// wrongRegions are not canonical, most of them for one reason only.
func wrongRegions() []api.Region {
	wrong := []api.Region{
		{Width: -1},
		{Width: 13},
		{Width: math.MinInt},
		{Width: math.MaxInt},
		{Width: -1, Full: true},
		{Width: 1, Full: true},
		{Width: 12, Full: true},
		{Width: 0, Parts: []api.Part{part(ints(1, 2), full())}},
		{Width: 0, Full: true, Parts: []api.Part{part(ints(1, 2), full())}},
		{Width: 0, Parts: []api.Part{{}}},
		{Width: 0, Parts: []api.Part{part(ints(1, 2), api.Region{Width: -1, Full: true})}},
		{Width: 1, Full: true, Parts: []api.Part{part(ints(1, 2), full())}},
		{Width: 2, Parts: []api.Part{part(ints(1, 2), api.Region{Width: 1, Full: true, Parts: []api.Part{part(ints(1, 2), full())}})}},
		chain(13),
		tree(part(ints(1, 2), api.Region{})),
		tree(part(ints(1, 2), api.Region{Width: 1})),
		tree(part(ints(1, 2), api.Region{Width: 1, Full: true})),
		tree(part(ints(1, 2), tree(part(ints(1, 2), api.Region{})))),
		tree(part(ints(1, 2), api.Region{Full: true, Parts: []api.Part{part(ints(1, 2), full())}})),
		// A set that is empty, or not canonical.
		box(nil),
		box(list()),
		box(ints(1, 2), nil),
		box(nil, ints(1, 2)),
		box(ints(2, 2)),
		box(ints(2, 1)),
		box(every(), list(span(num(1), num(2)), span(num(2), num(3)))),
		box(list(span(num(1), num(2)), span(num(2), num(3))), every()),
		box(list(span(num(5), num(6)), span(num(1), num(2)))),
		box(list(api.Interval{From: num(1)})),
		box(list(api.Interval{From: api.Value{}, To: num(1)})),
		box(list(api.Interval{From: num(1), To: num(2), Open: true})),
		box(comb(65, 0)),
		box(comb(1000, 0), every()),
		// A rest of another width.
		{Width: 1, Parts: []api.Part{part(ints(1, 2), box(ints(1, 2)))}},
		{Width: 2, Parts: []api.Part{part(ints(1, 2), full())}},
		{Width: 3, Parts: []api.Part{part(ints(1, 2), box(every(), every())), part(ints(3, 4), box(every()))}},
		{Width: 12, Parts: []api.Part{part(ints(1, 2), chain(12))}},
		// Two parts with the same rest.
		tree(part(ints(1, 2), full()), part(ints(4, 5), full())),
		tree(part(ints(1, 2), full()), part(ints(2, 3), full())),
		tree(part(ints(1, 2), box(ints(1, 2))), part(ints(2, 3), box(ints(5, 6))), part(ints(3, 4), box(ints(1, 2)))),
		tree(part(ints(1, 2), diagonal(3, 0)), part(ints(2, 3), diagonal(3, 0))),
		tree(part(every(), tree(part(ints(1, 2), box(ints(1, 2))), part(ints(2, 3), box(ints(1, 2)))))),
		// Two parts with a value in common.
		tree(part(ints(1, 3), box(ints(1, 2))), part(ints(2, 4), box(ints(5, 6)))),
		tree(part(ints(1, 9), box(ints(1, 2))), part(ints(2, 3), box(ints(5, 6)))),
		tree(part(ints(1, 3), box(ints(1, 2))), part(ints(1, 3), box(ints(5, 6)))),
		tree(part(list(span(num(1), num(2)), span(num(7), num(9))), box(ints(1, 2))), part(ints(3, 8), box(ints(5, 6)))),
		tree(part(list(span(num(1), num(2)), open(num(7))), box(ints(1, 2))), part(list(open(num(9))), box(ints(5, 6)))),
		tree(part(ints(1, 3), box(ints(1, 2))), part(ints(3, 4), box(ints(2, 3))), part(list(span(num(5), num(6))), box(ints(3, 4))), part(list(span(num(5), num(7))), box(ints(4, 5)))),
		tree(part(list(span(num(0), num(500))), box(ints(1, 2))), part(comb(64, 1), box(ints(5, 6)))),
		// What the two sets have in common is more than a set may hold.
		tree(part(threes(64, 0), box(ints(1, 2))), part(threes(64, 2), box(ints(5, 6)))),
		// Parts in another order.
		tree(part(ints(3, 4), box(ints(1, 2))), part(ints(1, 2), box(ints(5, 6)))),
		tree(part(ints(1, 2), box(ints(1, 2))), part(ints(5, 6), box(ints(5, 6))), part(ints(3, 4), box(ints(8, 9)))),
		tree(part(list(open(text("a"))), box(ints(1, 2))), part(list(span(missing(), hidden())), box(ints(5, 6)))),
		tree(part(every(), tree(part(ints(3, 4), box(ints(1, 2))), part(ints(1, 2), box(ints(5, 6)))))),
		// More parts than may be.
		diagonal(33, 0),
		diagonal(100, 0),
		tree(part(every(), diagonal(32, 0))),
		tree(part(ints(1, 2), diagonal(16, 0)), part(ints(2, 3), diagonal(16, 5))),
		tree(part(ints(1, 2), diagonal(1, 0)), part(ints(2, 3), diagonal(31, 0))),
		tree(part(ints(1, 2), diagonal(31, 0)), part(ints(2, 3), diagonal(1, 0))),
	}
	return append(wrong, entangled(64, 12), entangled(2, 12), entangled(5, 12), endless(1), endless(12))
}

// entangled returns a tree whose branches on each level are one and the same memory.
func entangled(branches, width int) api.Region {
	r := full()
	for range width {
		next := api.Region{Width: r.Width + 1}
		for i := range int64(branches) {
			next.Parts = append(next.Parts, part(ints(i, i+1), r))
		}
		r = next
	}
	return r
}

// endless returns a tree that contains itself.
func endless(width int) api.Region {
	parts := []api.Part{part(ints(1, 2), api.Region{Width: width - 1})}
	parts[0].Rest.Parts = parts
	return api.Region{Width: width, Parts: parts}
}

// P4.1
func TestValidAndSize(t *testing.T) {
	for i, right := range rightRegions() {
		if !region.Valid(right.r) || region.Size(right.r) != right.size {
			t.Errorf("%d: %v: Valid = %v, Size = %d, want %d", i, right.r, region.Valid(right.r), region.Size(right.r), right.size)
		}
	}
	for i, r := range wrongRegions() {
		if region.Valid(r) || region.Size(r) != 0 {
			t.Errorf("%d: Valid = %v, Size = %d", i, region.Valid(r), region.Size(r))
		}
	}
}

// P4.1
func TestEqual(t *testing.T) {
	for _, a := range rightRegions() {
		for _, b := range rightRegions() {
			if region.Equal(a.r, b.r) != equal(a.r, b.r) {
				t.Errorf("Equal(%v, %v) = %v", a.r, b.r, !equal(a.r, b.r))
			}
		}
		for _, wrong := range wrongRegions() {
			if region.Equal(a.r, wrong) || region.Equal(wrong, a.r) {
				t.Error("a canonical region is equal to one that is not")
			}
		}
	}
	for i, wrong := range wrongRegions() {
		if region.Equal(wrong, wrong) {
			t.Errorf("%d: a region that is not canonical is equal to itself", i)
		}
	}
	base := tree(part(ints(1, 3), box(ints(5, 7))), part(ints(3, 5), box(ints(7, 9))))
	for _, other := range []api.Region{
		{Width: 2},
		box(ints(1, 3), ints(5, 7)),
		tree(part(ints(1, 2), box(ints(5, 7))), part(ints(3, 5), box(ints(7, 9)))),
		tree(part(ints(1, 3), box(ints(5, 7))), part(ints(4, 5), box(ints(7, 9)))),
		tree(part(ints(1, 3), box(ints(5, 8))), part(ints(3, 5), box(ints(7, 9)))),
		tree(part(ints(1, 3), box(ints(5, 7))), part(list(open(num(3))), box(ints(7, 9)))),
		tree(part(ints(1, 3), box(ints(5, 7))), part(ints(3, 5), box(ints(7, 9))), part(ints(5, 6), box(ints(1, 2)))),
	} {
		if region.Equal(base, other) || region.Equal(other, base) {
			t.Errorf("Equal(%v, %v) = true", base, other)
		}
	}
	if !region.Equal(base, tree(base.Parts...)) {
		t.Error("a region is not equal to itself")
	}
	if region.Equal(api.Region{Width: 1}, api.Region{Width: 2}) || region.Equal(api.Region{}, full()) || region.Equal(full(), api.Region{Width: 1}) {
		t.Error("Equal: regions of two widths, or an empty one and a full one, are equal")
	}
}

// P4.2
func TestEmptyAndAll(t *testing.T) {
	for width := range 13 {
		got, errno := region.Empty(width)
		check(t, "Empty", width, got, errno, api.Region{Width: width}, api.OK)
		got, errno = region.All(width)
		check(t, "All", width, got, errno, chain(width), api.OK)
	}
	for _, width := range []int{-1, 13, 14, math.MinInt, math.MaxInt} {
		got, errno := region.Empty(width)
		check(t, "Empty", width, got, errno, api.Region{}, api.ErrArg)
		got, errno = region.All(width)
		check(t, "All", width, got, errno, api.Region{}, api.ErrArg)
	}
}

// sets returns a box of as many sets, all of them every value.
func sets(n int) [][]api.Interval {
	return slices.Repeat([][]api.Interval{every()}, n)
}

// P4.2
func TestBox(t *testing.T) {
	bad := ints(2, 2)
	for i, c := range []struct {
		sets  [][]api.Interval
		want  api.Region
		errno api.Errno
	}{
		{nil, full(), api.OK},
		{[][]api.Interval{}, full(), api.OK},
		{sets(1), chain(1), api.OK},
		{sets(12), chain(12), api.OK},
		{[][]api.Interval{ints(1, 3), ints(5, 7)}, tree(part(ints(1, 3), tree(part(ints(5, 7), full())))), api.OK},
		{[][]api.Interval{comb(64, 0), ints(5, 7), comb(64, 3)}, box(comb(64, 0), ints(5, 7), comb(64, 3)), api.OK},
		{[][]api.Interval{nil}, api.Region{Width: 1}, api.OK},
		{[][]api.Interval{nil, every()}, api.Region{Width: 2}, api.OK},
		{[][]api.Interval{every(), list()}, api.Region{Width: 2}, api.OK},
		{[][]api.Interval{every(), nil, every()}, api.Region{Width: 3}, api.OK},
		{make([][]api.Interval, 12), api.Region{Width: 12}, api.OK},
		{sets(13), api.Region{}, api.ErrArg},
		{make([][]api.Interval, 13), api.Region{}, api.ErrArg},
		{append(sets(12), bad), api.Region{}, api.ErrArg},
		{slices.Repeat([][]api.Interval{bad}, 13), api.Region{}, api.ErrArg},
		{append(sets(11), bad), api.Region{}, api.ErrInterval},
		{[][]api.Interval{bad, every()}, api.Region{}, api.ErrInterval},
		{[][]api.Interval{nil, bad}, api.Region{}, api.ErrInterval},
		{[][]api.Interval{bad, nil}, api.Region{}, api.ErrInterval},
		{[][]api.Interval{comb(65, 0)}, api.Region{}, api.ErrInterval},
		{[][]api.Interval{list(span(num(1), num(2)), span(num(2), num(3)))}, api.Region{}, api.ErrInterval},
	} {
		got, errno := region.Box(c.sets)
		check(t, "Box", i, got, errno, c.want, c.errno)
	}
}

// P4.2
func TestOne(t *testing.T) {
	bad := api.Value{Kind: api.KindInt, Text: "a"}
	long := slices.Repeat(row(num(1)), 12)
	for i, c := range []struct {
		row   api.Row
		want  api.Region
		errno api.Errno
	}{
		{nil, full(), api.OK},
		{row(), full(), api.OK},
		{row(num(7)), box(ints(7, 8)), api.OK},
		{row(num(1), hidden(), text("a")), box(ints(1, 2), list(span(hidden(), api.Value{Kind: api.KindBool})), list(span(text("a"), text("a\x00")))), api.OK},
		{row(missing(), greatest()), box(list(span(missing(), hidden())), list(open(greatest()))), api.OK},
		{long, box(slices.Repeat([][]api.Interval{ints(1, 2)}, 12)...), api.OK},
		{append(slices.Clone(long), num(1)), api.Region{}, api.ErrArg},
		{append(slices.Clone(long), bad), api.Region{}, api.ErrArg},
		{slices.Repeat(row(bad), 13), api.Region{}, api.ErrArg},
		{append(slices.Clone(long[1:]), bad), api.Region{}, api.ErrValue},
		{row(bad), api.Region{}, api.ErrValue},
		{row(num(1), api.Value{}), api.Region{}, api.ErrValue},
		{row(api.Value{}, num(1)), api.Region{}, api.ErrValue},
		{row(text(strings.Repeat("a", 65))), api.Region{}, api.ErrValue},
	} {
		got, errno := region.One(c.row)
		check(t, "One", i, got, errno, c.want, c.errno)
		if errno == api.OK && !region.Has(got, c.row) {
			t.Errorf("%d: One(%v) does not contain the row", i, c.row)
		}
	}
}

// P4.3
func TestHas(t *testing.T) {
	r := tree(
		part(list(span(num(1), num(2)), span(num(5), num(6))), box(ints(5, 7))),
		part(ints(3, 4), box(list(span(hidden(), yes()), open(text("b"))))),
	)
	for _, c := range []struct {
		row  api.Row
		want bool
	}{
		{row(num(1), num(5)), true},
		{row(num(1), num(6)), true},
		{row(num(1), num(7)), false},
		{row(num(5), num(5)), true},
		{row(num(2), num(5)), false},
		{row(num(4), num(5)), false},
		{row(num(0), num(5)), false},
		{row(num(3), num(5)), false},
		{row(num(3), hidden()), true},
		{row(num(3), yes()), false},
		{row(num(3), greatest()), true},
		{row(num(3), missing()), false},
		{row(num(1), hidden()), false},
		{row(missing(), num(5)), false},
		{row(), false},
		{nil, false},
		{row(num(1)), false},
		{row(num(1), num(5), num(5)), false},
		{row(num(1), api.Value{}), false},
		{row(api.Value{}, num(5)), false},
		{row(num(3), text(strings.Repeat("c", 65))), false},
		{row(api.Value{Kind: api.KindInt, Int: 1, Text: "a"}, num(5)), false},
	} {
		if got := region.Has(r, c.row); got != c.want {
			t.Errorf("Has(%v, %v) = %v", r, c.row, got)
		}
	}
	if !region.Has(full(), nil) || !region.Has(full(), row()) || region.Has(api.Region{}, nil) || region.Has(api.Region{Width: 1}, row(num(1))) || region.Has(full(), row(num(1))) {
		t.Error("Has: wrong about a region of width 0 or an empty one")
	}
	last := slices.Repeat(row(greatest()), 12)
	if !region.Has(chain(12), last) || region.Has(chain(12), last[1:]) || region.Has(chain(11), last) {
		t.Error("Has: wrong about a region of width 12")
	}
}

// P4.3 and P4.9: a region that is not canonical has no rows.
func TestWrongRegionsHaveNoRows(t *testing.T) {
	for i, wrong := range wrongRegions() {
		for _, cell := range []api.Value{num(0), num(1), num(2), num(3), num(5), num(7), missing(), text("b"), {}} {
			for width := range 14 {
				if region.Has(wrong, slices.Repeat(row(cell), width)) {
					t.Errorf("%d: Has finds a row of %d times %v", i, width, cell)
				}
			}
		}
		if least, ok := region.Least(wrong); len(least) > 0 || ok {
			t.Errorf("%d: Least = %v, %v", i, least, ok)
		}
	}
}

// P4.9
func TestLeast(t *testing.T) {
	for i, c := range []struct {
		r    api.Region
		want api.Row
		ok   bool
	}{
		{api.Region{}, nil, false},
		{full(), nil, true},
		{api.Region{Width: 1}, nil, false},
		{api.Region{Width: 12}, nil, false},
		{chain(12), slices.Repeat(row(missing()), 12), true},
		{box(ints(7, 8), list(open(greatest()))), row(num(7), greatest()), true},
		{tree(part(ints(2, 3), box(ints(8, 9))), part(ints(4, 5), box(ints(1, 2)))), row(num(2), num(8)), true},
		{tree(part(list(span(hidden(), yes()), span(num(9), num(10))), diagonal(2, 5)), part(ints(4, 5), diagonal(1, 0))), row(hidden(), num(5), num(5)), true},
	} {
		got, ok := region.Least(c.r)
		if !slices.Equal(got, c.want) || ok != c.ok {
			t.Errorf("%d: Least(%v) = %v, %v, want %v, %v", i, c.r, got, ok, c.want, c.ok)
		}
	}
	for _, right := range rightRegions() {
		least, ok := region.Least(right.r)
		if ok != (right.r.Full || len(right.r.Parts) > 0) || ok && !region.Has(right.r, least) {
			t.Errorf("Least(%v) = %v, %v", right.r, least, ok)
		}
	}
}

// addresses counts, for every element of the slices of a region, unused capacity included, where it stands.
type addresses struct {
	intervals map[*api.Interval]int
	parts     map[*api.Part]int
}

func (a addresses) add(r api.Region) {
	parts := r.Parts[:cap(r.Parts)]
	for i := range parts {
		a.parts[&parts[i]]++
		values := parts[i].Values[:cap(parts[i].Values)]
		for j := range values {
			a.intervals[&values[j]]++
		}
		a.add(parts[i].Rest)
	}
}

// roomy returns a copy of the region with slices that have unused capacity.
func roomy(r api.Region) api.Region {
	c := api.Region{Width: r.Width, Full: r.Full}
	for _, p := range r.Parts {
		values := append(slices.Clone(p.Values), ints(77, 78)...)
		c.Parts = append(c.Parts, part(values[:len(p.Values)], roomy(p.Rest)))
	}
	spare := append(c.Parts, part(ints(78, 79), full()))
	c.Parts = spare[:len(r.Parts)]
	return c
}

// sameWithRoom is equal, but the unused capacity counts too.
func sameWithRoom(a, b api.Region) bool {
	if a.Width != b.Width || a.Full != b.Full || len(a.Parts) != len(b.Parts) || cap(a.Parts) != cap(b.Parts) {
		return false
	}
	return slices.EqualFunc(a.Parts[:cap(a.Parts)], b.Parts[:cap(b.Parts)], func(p, q api.Part) bool {
		return len(p.Values) == len(q.Values) && slices.Equal(p.Values[:cap(p.Values)], q.Values[:cap(q.Values)]) && sameWithRoom(p.Rest, q.Rest)
	})
}

// results calls everything that makes a region from two of width 2.
func results(a, b api.Region, set []api.Interval, cells api.Row, columns []int) []api.Region {
	var all []api.Region
	add := func(r api.Region, _ api.Errno) { all = append(all, r) }
	add(region.Empty(3))
	add(region.All(3))
	add(region.Box([][]api.Interval{set, set, set}))
	add(region.One(cells))
	for _, pair := range [][2]api.Region{{a, b}, {b, a}, {a, a}, {a, {Width: 2}}, {{Width: 2}, a}} {
		add(region.Union(pair[0], pair[1]))
		add(region.Intersect(pair[0], pair[1]))
		add(region.Minus(pair[0], pair[1]))
		add(region.Product(pair[0], pair[1]))
	}
	for _, r := range []api.Region{a, b} {
		add(region.Complement(r))
		add(region.Project(r, columns))
		add(region.Project(r, columns[:1]))
		add(region.ForAll(r, columns))
		add(region.Lift(r, columns, 2))
		add(region.Lift(r, columns, 3))
		add(region.Product(r, full()))
		add(region.Product(full(), r))
	}
	return all
}

// R2: no argument changes, unused capacity included, and every slice of every result is memory of its own.
func TestResultsAreNewMemory(t *testing.T) {
	a := roomy(tree(part(ints(1, 3), box(ints(5, 7))), part(ints(3, 5), box(ints(7, 9))), part(ints(6, 7), box(every()))))
	b := roomy(tree(part(ints(2, 4), box(ints(6, 8))), part(list(open(num(4))), box(ints(1, 6)))))
	set, cells, columns := roomy(box(comb(3, 0))).Parts[0].Values, row(num(1), hidden(), num(2))[:2], []int{1, 0, 7}[:2]
	beforeA, beforeB, beforeSet := roomy(a), roomy(b), slices.Clone(set[:cap(set)])
	made := results(a, b, set, cells, columns)
	region.Covers(a, b)
	region.Equal(a, b)
	region.Least(a)
	region.Has(a, cells)
	if !sameWithRoom(a, beforeA) || !sameWithRoom(b, beforeB) || !slices.Equal(set[:cap(set)], beforeSet) {
		t.Error("an argument changed")
	}
	if !slices.Equal(cells[:3], row(num(1), hidden(), num(2))) || !slices.Equal(columns[:3], []int{1, 0, 7}) {
		t.Error("a row or the columns changed")
	}
	found := addresses{map[*api.Interval]int{}, map[*api.Part]int{}}
	for _, r := range append(made, a, b, api.Region{Width: 1, Parts: []api.Part{part(set, full())}}) {
		found.add(r)
	}
	for _, n := range found.parts {
		if n > 1 {
			t.Error("two slices of parts share memory")
		}
	}
	for _, n := range found.intervals {
		if n > 1 {
			t.Error("two sets share memory")
		}
	}
	least, _ := region.Least(a)
	least[0] = num(99)
	if again, _ := region.Least(a); again[0] != num(1) {
		t.Error("two results of Least share memory")
	}
}

// P4.2: what All and One contain is what interval's sets contain.
func TestSetsOfInterval(t *testing.T) {
	for _, v := range []api.Value{missing(), hidden(), yes(), num(math.MinInt64), num(math.MaxInt64), text(""), text("a"), greatest()} {
		set, _ := interval.One(v)
		one, _ := region.One(row(v))
		if !equal(one, box(set)) || !region.Has(one, row(v)) {
			t.Errorf("One(%v) = %v", v, one)
		}
		if next, ok := value.Next(v); ok && region.Has(one, row(next)) {
			t.Errorf("One(%v) contains %v", v, next)
		}
		all, _ := region.All(1)
		if !region.Has(all, row(v)) {
			t.Errorf("All does not contain %v", v)
		}
	}
}
