package bounds_test

import (
	"math"
	"math/rand"
	"slices"
	"testing"

	"partsync/api"
	"partsync/bounds"
	"partsync/predicate"
	"partsync/region"
	"partsync/value"
)

// member says by P6.2 whether the row, whose cells may be of any kind, is in the inner and in the outer region of p.
func member(columns []int, p api.Predicate, r api.Row) (inner, outer bool) {
	switch p.Op {
	case api.PredTrue:
		return true, true
	case api.PredCompare:
		return memberOfComparison(columns, p, r)
	case api.PredAnd:
		inner, outer = true, true
		for _, arg := range p.Args {
			in, out := member(columns, arg, r)
			inner, outer = inner && in, outer && out
		}
	case api.PredOr:
		for _, arg := range p.Args {
			in, out := member(columns, arg, r)
			inner, outer = inner || in, outer || out
		}
	case api.PredNot:
		in, out := member(columns, p.Args[0], r)
		return !out, !in
	}
	return inner, outer
}

// memberOfComparison is member for a comparison.
func memberOfComparison(columns []int, p api.Predicate, r api.Row) (inner, outer bool) {
	var sides [2]api.Value
	typed := true
	named := 0
	for i, o := range []api.Operand{p.Left, p.Right} {
		sides[i] = o.Value
		if o.Kind == api.OperandColumn {
			named++
			sides[i] = r[o.Index]
			typed = typed && r[o.Index].Kind == columns[o.Index]
		}
	}
	if named == 2 && p.Left.Index != p.Right.Index {
		return false, typed
	}
	holds := typed && comparisons()[p.Cmp][value.Compare(sides[0], sides[1])+1]
	return holds, holds
}

// contains reports whether the region contains the row of valid cells.
func contains(r api.Region, cells api.Row) bool {
	if r.Width == 0 {
		return r.Full
	}
	for _, part := range r.Parts {
		for _, piece := range part.Values {
			if value.Compare(piece.From, cells[0]) <= 0 && (piece.Open || value.Compare(cells[0], piece.To) < 0) {
				return contains(part.Rest, cells[1:])
			}
		}
	}
	return false
}

// cuts lists the values at which a region of a predicate with the constants can change, in ascending order.
func cuts() []api.Value {
	list := []api.Value{missing(), hidden(), no(), num(math.MinInt64), text("")}
	for _, v := range constants() {
		list = append(list, v)
		if next, ok := value.Next(v); ok {
			list = append(list, next)
		}
	}
	slices.SortFunc(list, value.Compare)
	return slices.Compact(list)
}

// constants are the values with which the random predicates compare.
func constants() []api.Value {
	return []api.Value{no(), yes(), num(1), num(2), num(math.MaxInt64), text("a"), greatest()}
}

// boundedBy reports whether all bounds of the region are among the values.
func boundedBy(values []api.Value, r api.Region) bool {
	for _, part := range r.Parts {
		for _, piece := range part.Values {
			if !slices.Contains(values, piece.From) || !piece.Open && !slices.Contains(values, piece.To) {
				return false
			}
		}
		if !boundedBy(values, part.Rest) {
			return false
		}
	}
	return true
}

// grid lists all rows of this width whose cells are cuts.
func grid(width int) []api.Row {
	rows := []api.Row{nil}
	for range width {
		var longer []api.Row
		for _, r := range rows {
			for _, v := range cuts() {
				longer = append(longer, append(slices.Clone(r), v))
			}
		}
		rows = longer
	}
	return rows
}

// some returns a random predicate of at most this depth, which is valid for the columns if it is not too large.
func some(random *rand.Rand, columns []int, depth int) api.Predicate {
	choice := random.Intn(12)
	switch {
	case depth == 1 || choice < 3:
		kind := kb + random.Intn(3)
		return compare(side(random, columns, kind), 1+random.Intn(6), side(random, columns, kind))
	case choice == 3:
		return always()
	case choice == 4:
		return never()
	case choice < 7:
		return not(some(random, columns, depth-1))
	}
	p := api.Predicate{Op: api.PredAnd + choice%2}
	for range random.Intn(4) {
		p.Args = append(p.Args, some(random, columns, depth-1))
	}
	return p
}

// side returns a random operand of the kind.
func side(random *rand.Rand, columns []int, kind int) api.Operand {
	for {
		i := random.Intn(2 * max(len(columns), 3))
		if i < len(columns) && columns[i] == kind {
			return col(i)
		}
		if v := constants()[random.Intn(len(constants()))]; i >= len(columns) && v.Kind == kind {
			return val(v)
		}
	}
}

// P6.2: random predicates, by the rows that belong in their regions. These decide, as the regions are
// canonical and change at the cuts alone.
func TestMembers(t *testing.T) {
	random := rand.New(rand.NewSource(6))
	for _, columns := range [][]int{nil, {kb}, {ki}, {kt}, {ki, ki}, {kt, kb}, {kb, kb}, {kt, kt}, {ki, kt, ki}, {kb, kt, kt}} {
		rows := grid(len(columns))
		rounds := 600
		if len(columns) > 2 {
			rounds = 60
		}
		for range rounds {
			p := some(random, columns, 5)
			in, out, errno := bounds.Regions(columns, p)
			if want := predicate.Check(columns, nil, p); errno != want {
				t.Fatalf("Regions(%v, %v) = %d, want %d", columns, p, errno, want)
			}
			if errno != api.OK {
				continue
			}
			for _, r := range []api.Region{in, out} {
				if r.Width != len(columns) || !region.Valid(r) || !boundedBy(cuts(), r) {
					t.Fatalf("Regions(%v, %v) has the region %v", columns, p, r)
				}
			}
			for _, r := range rows {
				inner, outer := member(columns, p, r)
				if contains(in, r) != inner || contains(out, r) != outer {
					t.Fatalf("Regions(%v, %v) = %v, %v, but the row %v belongs in them: %v, %v", columns, p, in, out, r, inner, outer)
				}
			}
		}
	}
}

// typed returns a random typed row for the columns, of cells that are among the values.
func typed(random *rand.Rand, columns []int, values []api.Value) api.Row {
	var r api.Row
	for _, kind := range columns {
		v := values[random.Intn(len(values))]
		for v.Kind != kind && v.Kind != api.KindMissing && v.Kind != api.KindHidden {
			v = values[random.Intn(len(values))]
		}
		r = append(r, v)
	}
	return r
}

// compares reports whether p compares two different columns.
func compares(p api.Predicate) bool {
	return p.Op == api.PredCompare && p.Left.Kind == api.OperandColumn && p.Right.Kind == api.OperandColumn && p.Left.Index != p.Right.Index ||
		slices.ContainsFunc(p.Args, compares)
}

// P6.3
func TestConsequences(t *testing.T) {
	random := rand.New(rand.NewSource(63))
	columns := []int{ki, kt, ki, kt, kb, kb}
	values := cuts()
	found := map[[3]bool]int{}
	exact, inexact := 0, 0
	for range 4000 {
		p := some(random, columns, 4)
		in, out, errno := bounds.Regions(columns, p)
		if errno == api.ErrLimit {
			continue
		}
		if errno != api.OK {
			t.Fatalf("Regions(%v) = %d", p, errno)
		}
		if compares(p) {
			inexact++
		} else {
			exact++
			if !region.Equal(in, out) {
				t.Fatalf("%v compares no two columns, but its regions are %v and %v", p, in, out)
			}
		}
		if covers, _ := region.Covers(out, in); !covers {
			t.Fatalf("the outer region of %v does not cover the inner one", p)
		}
		for range 30 {
			r := typed(random, columns, values)
			holds := predicate.Holds(p, r, nil)
			inner, outer := contains(in, r), contains(out, r)
			if inner && !holds || holds && !outer {
				t.Fatalf("%v: Holds of %v is %v, and it is in the inner region: %v, in the outer one: %v", p, r, holds, inner, outer)
			}
			found[[3]bool{inner, holds, outer}]++
		}
	}
	if exact < 400 || inexact < 400 {
		t.Errorf("%d predicates compare no two columns, and %d do", exact, inexact)
	}
	for _, k := range [][3]bool{{false, false, false}, {false, false, true}, {false, true, true}, {true, true, true}} {
		if found[k] < 500 {
			t.Errorf("only %d rows with inner, holds, outer = %v", found[k], k)
		}
	}
}

// P6.3 speaks of typed rows: of others nothing follows.
func TestRowsThatAreNotTyped(t *testing.T) {
	p := compare(col(0), api.CmpEq, col(0))
	_, out, _ := bounds.Regions([]int{ki}, p)
	if !predicate.Holds(p, row(text("a")), nil) || region.Has(out, row(text("a"))) {
		t.Error("a text in a column of ints is in the outer region")
	}
}

// byHand finds the regions of p by one operation of package region after another, as P6.2 lists them.
func byHand(columns []int, p api.Predicate) (inner, outer api.Region, e api.Errno) {
	switch p.Op {
	case api.PredCompare, api.PredTrue, api.PredFalse:
		return bounds.Regions(columns, p)
	case api.PredNot:
		in, out, errno := byHand(columns, p.Args[0])
		if errno != api.OK {
			return api.Region{}, api.Region{}, errno
		}
		inner, first := region.Complement(out)
		outer, second := region.Complement(in)
		return inner, outer, max(first, second)
	}
	start, add := region.All, region.Intersect
	if p.Op == api.PredOr {
		start, add = region.Empty, region.Union
	}
	inner, _ = start(len(columns))
	outer, _ = start(len(columns))
	for _, arg := range p.Args {
		in, out, errno := byHand(columns, arg)
		if errno != api.OK {
			return api.Region{}, api.Region{}, errno
		}
		var first, second api.Errno
		inner, first = add(inner, in)
		outer, second = add(outer, out)
		e = max(first, second)
		if e != api.OK {
			return api.Region{}, api.Region{}, e
		}
	}
	return inner, outer, api.OK
}

// large returns a random predicate over many int columns, whose regions may be too large.
func large(random *rand.Rand, columns int) api.Predicate {
	p := or()
	for range 2 + random.Intn(3) {
		inside := and()
		for range 1 + random.Intn(4) {
			leaf := compare(col(random.Intn(columns)), 1+random.Intn(6), val(num(random.Int63n(4))))
			if random.Intn(4) == 0 {
				leaf = same(random.Intn(columns), random.Intn(columns))
			}
			if random.Intn(6) == 0 {
				leaf = not(leaf)
			}
			inside.Args = append(inside.Args, leaf)
		}
		p.Args = append(p.Args, inside)
	}
	if random.Intn(2) == 0 {
		p.Op = api.PredAnd
		for i := range p.Args {
			p.Args[i].Op = api.PredOr
		}
	}
	if random.Intn(3) == 0 {
		p = not(p)
	}
	return p
}

// P6.1 and P6.2: whether a region is too large, and the regions of many columns.
func TestLargeRegions(t *testing.T) {
	random := rand.New(rand.NewSource(12))
	found := map[api.Errno]int{}
	for range 1500 {
		columns := of(ki, 5+random.Intn(8))
		p := large(random, len(columns))
		if predicate.Check(columns, nil, p) != api.OK {
			continue
		}
		in, out, errno := bounds.Regions(columns, p)
		wantIn, wantOut, want := byHand(columns, p)
		if want != api.OK {
			expectError(t, columns, p, api.ErrLimit)
		} else if errno != api.OK || !region.Equal(in, wantIn) || !region.Equal(out, wantOut) {
			t.Fatalf("Regions(%v, %v) = %v, %v, %d, want %v, %v", len(columns), p, in, out, errno, wantIn, wantOut)
		}
		found[errno]++
	}
	if found[api.OK] < 300 || found[api.ErrLimit] < 300 {
		t.Errorf("the cases are one-sided: %v", found)
	}
}
