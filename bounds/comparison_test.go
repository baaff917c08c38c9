package bounds_test

import (
	"math"
	"strings"
	"testing"

	"partsync/api"
	"partsync/bounds"
	"partsync/value"
)

// comparisons says for each comparison whether it holds of a lesser value and a greater one, of equal ones,
// and of a greater one and a lesser one.
func comparisons() map[int][3]bool {
	return map[int][3]bool{
		api.CmpEq: {false, true, false},
		api.CmpNe: {true, false, true},
		api.CmpLt: {true, false, false},
		api.CmpLe: {true, true, false},
		api.CmpGt: {false, false, true},
		api.CmpGe: {false, true, true},
	}
}

// values lists values of the kind: the least and the greatest one, and others.
func values(kind int) []api.Value {
	switch kind {
	case kb:
		return []api.Value{no(), yes()}
	case ki:
		return []api.Value{num(math.MinInt64), num(math.MinInt64 + 1), num(-1), num(0), num(5), num(math.MaxInt64 - 1), num(math.MaxInt64)}
	}
	longest := strings.Repeat("\xff", 63)
	return []api.Value{text(""), text("\x00"), text("a"), text("a" + longest), text(longest), text(longest + "\xfe"), greatest()}
}

// related returns the set of the values of v's kind of which the comparison with v holds, from its ends.
func related(outcome [3]bool, v api.Value) []api.Interval {
	kind := ofKind(v.Kind)[0]
	next, more := value.Next(v)
	pieces := []api.Interval{{From: kind.From, To: v}, {From: v, To: next, Open: !more}, {From: next, To: kind.To, Open: kind.Open}}
	var set []api.Interval
	for i, piece := range pieces {
		if !outcome[i] || piece.From == piece.To || i == 2 && !more {
			continue
		}
		if n := len(set); n > 0 && set[n-1].To == piece.From {
			piece.From = set[n-1].From
			set = set[:n-1]
		}
		set = append(set, piece)
	}
	return set
}

// layouts lists kinds of columns, among which there are some of the kind.
func layouts(kind int) [][]int {
	var list [][]int
	for _, other := range []int{kb, ki, kt} {
		list = append(list, []int{kind}, []int{other, kind}, []int{kind, other}, []int{other, kind, other, kind}, append(of(other, 11), kind))
	}
	return list
}

// P6.2: a column and a value, and a value and a column.
func TestColumnAndValue(t *testing.T) {
	for _, kind := range []int{kb, ki, kt} {
		for _, v := range values(kind) {
			for cmp, outcome := range comparisons() {
				right := related(outcome, v)
				left := related([3]bool{outcome[2], outcome[1], outcome[0]}, v)
				for _, columns := range layouts(kind) {
					for i := range columns {
						if columns[i] != kind {
							continue
						}
						want := box(t, len(columns), right, i)
						expect(t, columns, compare(col(i), cmp, val(v)), want, want)
						want = box(t, len(columns), left, i)
						expect(t, columns, compare(val(v), cmp, col(i)), want, want)
					}
				}
			}
		}
	}
}

// P6.2: the same, with sets that are written out.
func TestColumnAndValueByHand(t *testing.T) {
	least, most := num(math.MinInt64), num(math.MaxInt64)
	for _, c := range []struct {
		kind  int
		left  api.Operand
		cmp   int
		right api.Operand
		want  []api.Interval
	}{
		{ki, col(0), api.CmpEq, val(num(5)), ints(5, 6)},
		{ki, col(0), api.CmpNe, val(num(5)), []api.Interval{{From: least, To: num(5)}, {From: num(6), To: text("")}}},
		{ki, col(0), api.CmpLt, val(num(5)), ints(math.MinInt64, 5)},
		{ki, col(0), api.CmpLe, val(num(5)), ints(math.MinInt64, 6)},
		{ki, col(0), api.CmpGt, val(num(5)), []api.Interval{{From: num(6), To: text("")}}},
		{ki, col(0), api.CmpGe, val(num(5)), []api.Interval{{From: num(5), To: text("")}}},
		{ki, val(num(5)), api.CmpEq, col(0), ints(5, 6)},
		{ki, val(num(5)), api.CmpNe, col(0), []api.Interval{{From: least, To: num(5)}, {From: num(6), To: text("")}}},
		{ki, val(num(5)), api.CmpLt, col(0), []api.Interval{{From: num(6), To: text("")}}},
		{ki, val(num(5)), api.CmpLe, col(0), []api.Interval{{From: num(5), To: text("")}}},
		{ki, val(num(5)), api.CmpGt, col(0), ints(math.MinInt64, 5)},
		{ki, val(num(5)), api.CmpGe, col(0), ints(math.MinInt64, 6)},
		{ki, col(0), api.CmpLt, val(least), nil},
		{ki, col(0), api.CmpNe, val(least), []api.Interval{{From: num(math.MinInt64 + 1), To: text("")}}},
		{ki, col(0), api.CmpGt, val(most), nil},
		{ki, col(0), api.CmpEq, val(most), []api.Interval{{From: most, To: text("")}}},
		{ki, col(0), api.CmpLe, val(most), ofKind(ki)},
		{kb, col(0), api.CmpLt, val(no()), nil},
		{kb, col(0), api.CmpNe, val(no()), []api.Interval{{From: yes(), To: least}}},
		{kb, col(0), api.CmpLe, val(yes()), ofKind(kb)},
		{kb, col(0), api.CmpGt, val(yes()), nil},
		{kt, col(0), api.CmpLt, val(text("")), nil},
		{kt, col(0), api.CmpGt, val(text("")), []api.Interval{{From: text("\x00"), Open: true}}},
		{kt, col(0), api.CmpGe, val(text("")), ofKind(kt)},
		{kt, col(0), api.CmpLe, val(text("a")), []api.Interval{{From: text(""), To: text("a\x00")}}},
		{kt, col(0), api.CmpEq, val(greatest()), []api.Interval{{From: greatest(), Open: true}}},
		{kt, col(0), api.CmpNe, val(greatest()), []api.Interval{{From: text(""), To: greatest()}}},
		{kt, col(0), api.CmpLe, val(greatest()), ofKind(kt)},
		{kt, col(0), api.CmpGt, val(greatest()), nil},
	} {
		want := box(t, 1, c.want, 0)
		expect(t, []int{c.kind}, compare(c.left, c.cmp, c.right), want, want)
	}
}

// P6.2: two values.
func TestValues(t *testing.T) {
	for _, kind := range []int{kb, ki, kt} {
		for _, a := range values(kind) {
			for _, b := range values(kind) {
				for cmp, outcome := range comparisons() {
					for _, columns := range [][]int{nil, {kind}, {kb, ki, kt}, of(kind, 12)} {
						want := none(len(columns))
						if outcome[value.Compare(a, b)+1] {
							want = all(t, len(columns))
						}
						expect(t, columns, compare(val(a), cmp, val(b)), want, want)
					}
				}
			}
		}
	}
}

// P6.2: a column with itself, which may be of another kind than a row's cell.
func TestColumnWithItself(t *testing.T) {
	for _, kind := range []int{kb, ki, kt} {
		for cmp, outcome := range comparisons() {
			for _, columns := range layouts(kind) {
				for i := range columns {
					want := none(len(columns))
					if outcome[1] {
						want = box(t, len(columns), ofKind(columns[i]), i)
					}
					expect(t, columns, compare(col(i), cmp, col(i)), want, want)
				}
			}
		}
	}
}

// P6.2: two different columns.
func TestDifferentColumns(t *testing.T) {
	for _, kind := range []int{kb, ki, kt} {
		for cmp := range comparisons() {
			for _, columns := range layouts(kind) {
				for i := range columns {
					for j := range columns {
						if i == j {
							continue
						}
						if columns[i] != columns[j] {
							expectError(t, columns, compare(col(i), cmp, col(j)), api.ErrPredicate)
							continue
						}
						expect(t, columns, compare(col(i), cmp, col(j)), none(len(columns)), box(t, len(columns), ofKind(columns[i]), i, j))
					}
				}
			}
		}
	}
	if _, out, _ := bounds.Regions([]int{kb, kb}, same(0, 1)); len(out.Parts) != 1 {
		t.Errorf("the outer region is %v", out)
	}
}
