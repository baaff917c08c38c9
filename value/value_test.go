package value_test

import (
	"math"
	"slices"
	"strings"
	"testing"

	"partsync/api"
	"partsync/value"
)

func missing() api.Value      { return api.Value{Kind: api.KindMissing} }
func hidden() api.Value       { return api.Value{Kind: api.KindHidden} }
func no() api.Value           { return api.Value{Kind: api.KindBool} }
func yes() api.Value          { return api.Value{Kind: api.KindBool, Int: 1} }
func num(n int64) api.Value   { return api.Value{Kind: api.KindInt, Int: n} }
func text(s string) api.Value { return api.Value{Kind: api.KindText, Text: s} }

// row returns a row that is not nil, even if it has no cells.
func row(cells ...api.Value) api.Row { return append(api.Row{}, cells...) }

func repeat(s string, n int) string { return strings.Repeat(s, n) }

// ascending lists values in strictly ascending order; those that are not valid stand among the others.
func ascending() []api.Value {
	return []api.Value{
		{Kind: math.MinInt, Int: math.MaxInt64, Text: "z"},
		{Kind: -1},
		{},
		{Int: 1},
		{Kind: api.KindMissing, Int: -1},
		missing(),
		{Kind: api.KindMissing, Text: "a"},
		hidden(),
		{Kind: api.KindHidden, Int: 1},
		{Kind: api.KindBool, Int: -1},
		no(),
		{Kind: api.KindBool, Text: "a"},
		yes(),
		{Kind: api.KindBool, Int: 2},
		num(math.MinInt64),
		num(-1),
		num(0),
		{Kind: api.KindInt, Text: "a"},
		num(1),
		num(math.MaxInt64 - 1),
		num(math.MaxInt64),
		{Kind: api.KindText, Int: -1, Text: "z"},
		text(""),
		text("\x00"),
		text("\x00\x00"),
		text("B"),
		text("a"),
		text("a\x00"),
		text("a\x00b"),
		text(repeat("a", 64)),
		text(repeat("a", 65)),
		text(repeat("a", 63) + "b"),
		text("ab"),
		text("a" + repeat("\xff", 63)),
		text("b"),
		text("\x7f"),
		text("\x80"),
		text("é"),
		text("\xef\xbf\xbd"),
		text("\xff"),
		text(repeat("\xff", 63)),
		text(repeat("\xff", 63) + "\xfe"),
		text(repeat("\xff", 64)),
		text(repeat("\xff", 65)),
		{Kind: api.KindText, Int: 1},
		{Kind: 6},
		{Kind: math.MaxInt, Int: math.MinInt64},
	}
}

// ascendingRows lists rows in strictly ascending order.
func ascendingRows() []api.Row {
	return []api.Row{
		row(),
		row(api.Value{}),
		row(missing()),
		row(missing(), text("z")),
		row(hidden()),
		row(num(1)),
		row(num(1), missing()),
		row(num(1), num(0)),
		row(num(1), num(0), num(-5)),
		row(num(1), num(2)),
		row(num(2)),
		row(num(2), num(0)),
		row(text("a"), num(9)),
		row(text("a\x00"), num(0)),
		row(api.Value{Kind: 6}),
	}
}

func order(i, j int) int {
	switch {
	case i < j:
		return -1
	case i > j:
		return 1
	}
	return 0
}

func equal(a, b []api.Row) bool {
	return slices.EqualFunc(a, b, func(x, y api.Row) bool { return slices.Equal(x, y) })
}

func clone(rows []api.Row) []api.Row {
	var c []api.Row
	for _, r := range rows {
		c = append(c, slices.Clone(r))
	}
	return c
}

// permutations returns the rows in every order.
func permutations(rows []api.Row) [][]api.Row {
	if len(rows) == 0 {
		return [][]api.Row{nil}
	}
	var all [][]api.Row
	for _, p := range permutations(rows[1:]) {
		for i := range len(p) + 1 {
			all = append(all, slices.Insert(slices.Clone(p), i, rows[0]))
		}
	}
	return all
}

// P1.1
func TestValidAndReal(t *testing.T) {
	for i, c := range []struct {
		v           api.Value
		valid, real bool
	}{
		{missing(), true, false},
		{hidden(), true, false},
		{no(), true, true},
		{yes(), true, true},
		{num(0), true, true},
		{num(math.MinInt64), true, true},
		{num(math.MaxInt64), true, true},
		{text(""), true, true},
		{text("a\x00\xff"), true, true},
		{text(repeat("x", 64)), true, true},
		{text(repeat("é", 32)), true, true},
		{text(repeat("é", 33)), false, false},
		{text(repeat("x", 65)), false, false},
		{api.Value{}, false, false},
		{api.Value{Kind: -1}, false, false},
		{api.Value{Kind: 6}, false, false},
		{api.Value{Kind: math.MinInt}, false, false},
		{api.Value{Kind: math.MaxInt}, false, false},
		{api.Value{Kind: api.KindMissing, Int: 1}, false, false},
		{api.Value{Kind: api.KindMissing, Text: "x"}, false, false},
		{api.Value{Kind: api.KindHidden, Int: -1}, false, false},
		{api.Value{Kind: api.KindHidden, Text: "x"}, false, false},
		{api.Value{Kind: api.KindBool, Int: -1}, false, false},
		{api.Value{Kind: api.KindBool, Int: 2}, false, false},
		{api.Value{Kind: api.KindBool, Text: "x"}, false, false},
		{api.Value{Kind: api.KindBool, Int: 1, Text: "x"}, false, false},
		{api.Value{Kind: api.KindInt, Int: 1, Text: "x"}, false, false},
		{api.Value{Kind: api.KindText, Int: 1, Text: "x"}, false, false},
		{api.Value{Kind: api.KindText, Int: math.MinInt64}, false, false},
	} {
		if valid := value.Valid(c.v); valid != c.valid {
			t.Errorf("%d: Valid(%#v) = %#v", i, c.v, valid)
		}
		if real := value.Real(c.v); real != c.real {
			t.Errorf("%d: Real(%#v) = %#v", i, c.v, real)
		}
	}
}

// P1.2
func TestCompare(t *testing.T) {
	l := ascending()
	for i, a := range l {
		for j, b := range l {
			if got := value.Compare(a, b); got != order(i, j) {
				t.Errorf("Compare(%#v, %#v) = %d, want %d", a, b, got, order(i, j))
			}
		}
	}
}

// P1.3
func TestNext(t *testing.T) {
	for i, c := range []struct{ v, want api.Value }{
		{missing(), hidden()},
		{hidden(), no()},
		{no(), yes()},
		{yes(), num(math.MinInt64)},
		{num(math.MinInt64), num(math.MinInt64 + 1)},
		{num(-1), num(0)},
		{num(math.MaxInt64 - 1), num(math.MaxInt64)},
		{num(math.MaxInt64), text("")},
		{text(""), text("\x00")},
		{text("a"), text("a\x00")},
		{text("\xff"), text("\xff\x00")},
		{text(repeat("\xff", 63)), text(repeat("\xff", 63) + "\x00")},
		{text(repeat("\x00", 64)), text(repeat("\x00", 63) + "\x01")},
		{text(repeat("a", 64)), text(repeat("a", 63) + "b")},
		{text(repeat("a", 63) + "\x7f"), text(repeat("a", 63) + "\x80")},
		{text(repeat("a", 63) + "\xfe"), text(repeat("a", 63) + "\xff")},
		{text("a" + repeat("\xff", 63)), text("b")},
		{text("\xff\xfe" + repeat("\xff", 62)), text("\xff\xff")},
		// No byte above 127 other than 255 is dropped, though none of them is UTF-8 on its own.
		{text("a" + repeat("\x80", 62) + "\xff"), text("a" + repeat("\x80", 61) + "\x81")},
		{text("\xfe" + repeat("\xff", 63)), text("\xff")},
	} {
		if got, ok := value.Next(c.v); got != c.want || !ok {
			t.Errorf("%d: Next(%#v) = %#v, %#v, want %#v", i, c.v, got, ok, c.want)
		}
	}
	none := []api.Value{text(repeat("\xff", 64))}
	for _, v := range ascending() {
		if !value.Valid(v) {
			none = append(none, v)
		}
	}
	for _, v := range none {
		if got, ok := value.Next(v); got != (api.Value{}) || ok {
			t.Errorf("Next(%#v) = %#v, %#v, want none", v, got, ok)
		}
	}
}

// P1.4
func TestFirst(t *testing.T) {
	firsts := []api.Value{missing(), hidden(), no(), num(math.MinInt64), text("")}
	for i, want := range firsts {
		if got, ok := value.First(i + 1); got != want || !ok {
			t.Errorf("First(%d) = %#v, %#v, want %#v", i+1, got, ok, want)
		}
	}
	for _, v := range ascending() {
		if value.Valid(v) && value.Compare(firsts[v.Kind-1], v) > 0 {
			t.Errorf("First(%d) is greater than %#v", v.Kind, v)
		}
	}
	for _, kind := range []int{0, 6, -1, math.MinInt, math.MaxInt} {
		if got, ok := value.First(kind); got != (api.Value{}) || ok {
			t.Errorf("First(%d) = %#v, %#v, want none", kind, got, ok)
		}
	}
}

// P1.5
func TestCompareRows(t *testing.T) {
	l := ascendingRows()
	for i, a := range l {
		for j, b := range l {
			if got := value.CompareRows(a, slices.Clone(b)); got != order(i, j) {
				t.Errorf("CompareRows(%#v, %#v) = %d, want %d", a, b, got, order(i, j))
			}
		}
	}
	if value.CompareRows(nil, row()) != 0 || value.CompareRows(row(), nil) != 0 || value.CompareRows(nil, row(missing())) != -1 {
		t.Error("CompareRows: a nil row is not an empty one")
	}
}

// P1.6
func TestSet(t *testing.T) {
	for i, c := range []struct{ rows, want []api.Row }{
		{nil, nil},
		{[]api.Row{}, nil},
		{[]api.Row{nil}, []api.Row{row()}},
		{[]api.Row{nil, row(), nil}, []api.Row{row()}},
		{[]api.Row{row(num(2)), row(num(1)), row(num(2))}, []api.Row{row(num(1)), row(num(2))}},
		{[]api.Row{row(num(1), hidden()), row(num(1)), row(num(1), missing())}, []api.Row{row(num(1)), row(num(1), missing()), row(num(1), hidden())}},
		{[]api.Row{row(api.Value{Kind: 9}), row(text("a")), row(api.Value{Kind: 9}), row(api.Value{})}, []api.Row{row(api.Value{}), row(text("a")), row(api.Value{Kind: 9})}},
	} {
		if got := value.Set(c.rows); !equal(got, c.want) {
			t.Errorf("%d: Set = %#v, want %#v", i, got, c.want)
		}
	}
}

// P1.6
func TestHas(t *testing.T) {
	rows := []api.Row{row(num(2)), row(num(1), hidden()), nil, row(num(2)), row(num(0))}
	for _, r := range append(clone(rows), row()) {
		if !value.Has(rows, r) {
			t.Errorf("Has does not find %#v", r)
		}
	}
	for _, r := range []api.Row{row(num(1)), row(num(1), missing()), row(num(1), hidden(), num(0)), row(num(3)), row(api.Value{})} {
		if value.Has(rows, r) {
			t.Errorf("Has finds %#v", r)
		}
	}
	if value.Has(nil, row()) || value.Has(nil, nil) || value.Has([]api.Row{row(num(1))}, nil) {
		t.Error("Has finds an empty row where there is none")
	}
	if !value.Has([]api.Row{row()}, nil) || !value.Has([]api.Row{nil}, row()) {
		t.Error("Has: a nil row is not an empty one")
	}
}

// P1.6 with R2: Set and Has leave the rows as they are, and the results of Set have memory of their own.
func TestSetKeepsItsArguments(t *testing.T) {
	spare := row(num(7), num(8))
	rows := append(make([]api.Row, 0, 5), row(num(2)), row(num(1)), row(num(2)), spare[:1], row(num(3)))
	given, before := rows[:4], clone(rows)
	set, again := value.Set(given), value.Set(given)
	value.Has(given, row(num(3)))
	for i := range set {
		set[i][0] = num(int64(100 + i))
		set[i] = append(set[i], num(-1))
	}
	set = append(set, row(num(-2)))
	if !equal(rows, before) || !equal([]api.Row{spare}, []api.Row{row(num(7), num(8))}) {
		t.Errorf("the argument is now %#v, and was %#v", rows, before)
	}
	if want := []api.Row{row(num(1)), row(num(2)), row(num(7))}; !equal(again, want) {
		t.Errorf("the other result is now %#v, want %#v", again, want)
	}
	want := []api.Row{row(num(100), num(-1)), row(num(101), num(-1)), row(num(102), num(-1)), row(num(-2))}
	if !equal(set, want) {
		t.Errorf("the changed result is %#v, want %#v", set, want)
	}
}

// P1.7
func TestTotalOrders(t *testing.T) {
	values, rows := ascending(), ascendingRows()
	for _, v := range values {
		rows = append(rows, row(v), row(num(1), v), row(v, v))
	}
	totalOrder(t, "Compare", values, value.Compare)
	totalOrder(t, "CompareRows", rows, value.CompareRows)
}

func totalOrder[T any](t *testing.T, name string, l []T, compare func(a, b T) int) {
	for _, a := range l {
		if compare(a, a) != 0 {
			t.Errorf("%s: %#v is not equal to itself", name, a)
		}
		for _, b := range l {
			if compare(a, b) != -compare(b, a) {
				t.Errorf("%s: %#v and %#v disagree", name, a, b)
			}
			for _, c := range l {
				if compare(a, b) <= 0 && compare(b, c) <= 0 && compare(a, c) > 0 {
					t.Fatalf("%s: %#v, %#v, %#v are not in order", name, a, b, c)
				}
			}
		}
	}
}

// P1.7
func TestNothingBetweenNext(t *testing.T) {
	var valid []api.Value
	for _, v := range ascending() {
		for range 3 {
			if !value.Valid(v) {
				break
			}
			valid = append(valid, v)
			v, _ = value.Next(v)
		}
	}
	for _, v := range valid {
		next, ok := value.Next(v)
		if ok && (!value.Valid(next) || value.Compare(v, next) != -1) {
			t.Errorf("Next(%#v) = %#v", v, next)
		}
		for _, w := range valid {
			if value.Compare(v, w) < 0 && (!ok || value.Compare(w, next) < 0) {
				t.Errorf("%#v lies between %#v and its next value %#v", w, v, next)
			}
		}
	}
}

// P1.7
func TestSetIgnoresOrderAndCount(t *testing.T) {
	rows := []api.Row{row(num(2)), row(), row(num(1), missing()), row(num(1)), row(text("a"))}
	want := []api.Row{row(), row(num(1)), row(num(1), missing()), row(num(2)), row(text("a"))}
	for _, p := range permutations(rows) {
		if got := value.Set(p); !equal(got, want) {
			t.Fatalf("Set(%#v) = %#v", p, got)
		}
		twice := append(clone(p[2:]), p...)
		if got := value.Set(twice); !equal(got, want) {
			t.Fatalf("Set(%#v) = %#v", twice, got)
		}
	}
	relation := ascendingRows()
	if got := value.Set(relation); !equal(got, relation) {
		t.Errorf("Set of a relation = %#v, want %#v", got, relation)
	}
	var many []api.Row
	for i := range int64(1000) {
		many = append(many, row(num(i*37%100)))
	}
	got := value.Set(many)
	if len(got) != 100 || !slices.IsSortedFunc(got, value.CompareRows) || !equal(value.Set(got), got) {
		t.Errorf("Set of 1000 rows, 100 of them different = %#v", got)
	}
}
