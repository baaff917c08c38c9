package table_test

import (
	"fmt"
	"math"
	"math/rand"
	"reflect"
	"slices"
	"strings"
	"testing"

	"partsync/api"
	"partsync/table"
)

const (
	kb = api.KindBool
	ki = api.KindInt
	kt = api.KindText
)

func missing() api.Value      { return api.Value{Kind: api.KindMissing} }
func hidden() api.Value       { return api.Value{Kind: api.KindHidden} }
func no() api.Value           { return api.Value{Kind: kb} }
func yes() api.Value          { return api.Value{Kind: kb, Int: 1} }
func num(n int64) api.Value   { return api.Value{Kind: ki, Int: n} }
func text(s string) api.Value { return api.Value{Kind: kt, Text: s} }

func row(cells ...api.Value) api.Row { return cells }

func list(rows ...api.Row) []api.Row { return rows }

func state(lists ...[]api.Row) api.State { return api.State{Tables: lists} }

// columns returns columns of these kinds, with the names a, b, and so on.
func columns(kinds ...int) []api.Column {
	var all []api.Column
	for i, kind := range kinds {
		all = append(all, api.Column{Name: string(rune('a' + i)), Kind: kind})
	}
	return all
}

// one is a schema with one table: schema.Check may refuse it.
func one(key int, kinds ...int) api.Schema {
	return api.Schema{Tables: []api.Table{{Name: "t", Columns: columns(kinds...), Key: key}}}
}

// shop is a schema with the tables users (name | age), sales (shop, user, day | paid) and flags (on |).
func shop() api.Schema {
	return api.Schema{Version: 3, Tables: []api.Table{
		{Name: "users", Columns: columns(kt, ki), Key: 1},
		{Name: "sales", Columns: columns(ki, kt, ki, kb), Key: 3, References: []api.Reference{{Columns: []int{1}, Table: 0}}},
		{Name: "flags", Columns: columns(kb), Key: 1},
	}}
}

// open is a state of the shop in ModeServer.
func open() api.State {
	return state(
		list(row(text("ann"), num(30)), row(text("bob"), num(40))),
		list(row(num(1), text("ann"), num(5), no()), row(num(1), text("ann"), num(6), yes()), row(num(1), text("bob"), num(2), yes()), row(num(2), text("ann"), num(1), no())),
		list(row(no()), row(yes())),
	)
}

// numbers returns n rows of two ints, with the keys from on.
func numbers(from, n int) []api.Row {
	rows := make([]api.Row, n)
	for i := range rows {
		rows[i] = row(num(int64(from+i)), num(0))
	}
	return rows
}

// short returns what is at most 300 bytes of the value's text.
func short(x any) string {
	s := fmt.Sprint(x)
	return s[:min(len(s), 300)]
}

// sameRows tells whether the lists have equal rows: nil and empty ones are the same.
func sameRows(a, b []api.Row) bool {
	return slices.EqualFunc(a, b, func(a, b api.Row) bool { return slices.Equal(a, b) })
}

// sameState tells whether the states have equal lists.
func sameState(a, b api.State) bool {
	return slices.EqualFunc(a.Tables, b.Tables, sameRows)
}

// expectCheck checks what Check returns in each of the modes 1 to 3.
func expectCheck(t *testing.T, s api.Schema, st api.State, want ...api.Errno) {
	t.Helper()
	for i, errno := range want {
		if got := table.Check(s, i+1, st); got != errno {
			t.Errorf("Check of %s in mode %d = %d, want %d", short(st), i+1, got, errno)
		}
	}
}

// P8.1: states that are valid, in some of the modes or in all of them.
func TestCheck(t *testing.T) {
	bad := api.ErrState
	for _, c := range []struct {
		s    api.Schema
		st   api.State
		want [3]api.Errno
	}{
		{shop(), open(), [3]api.Errno{}},
		{shop(), state(nil, nil, nil), [3]api.Errno{}},
		{shop(), state([]api.Row{}, list(row(num(1), text(""), num(math.MinInt64), no())), nil), [3]api.Errno{}},
		{api.Schema{}, api.State{}, [3]api.Errno{}},
		{api.Schema{}, state([][]api.Row{}...), [3]api.Errno{}},
		// Not as many lists as tables.
		{shop(), api.State{}, [3]api.Errno{bad, bad, bad}},
		{shop(), state(nil, nil), [3]api.Errno{bad, bad, bad}},
		{shop(), state(nil, nil, nil, nil), [3]api.Errno{bad, bad, bad}},
		{api.Schema{}, state(nil), [3]api.Errno{bad, bad, bad}},
		// Rows that fit in some modes only, in each place.
		{one(1, ki, ki), state(list(row(num(1), hidden()))), [3]api.Errno{bad}},
		{one(1, ki, ki), state(list(row(num(1), missing()))), [3]api.Errno{bad, bad}},
		{one(1, ki, ki), state(list(row(num(0), num(0)), row(num(1), hidden()), row(num(2), num(0)))), [3]api.Errno{bad}},
		{one(1, ki, ki), state(list(row(num(0), num(0)), row(num(1), num(0)), row(num(2), missing()))), [3]api.Errno{bad, bad}},
		{shop(), state(list(row(text("a"), hidden())), list(row(num(1), text("a"), num(1), missing())), nil), [3]api.Errno{bad, bad}},
		{shop(), state(nil, list(row(num(1), hidden(), num(1), no())), nil), [3]api.Errno{bad, bad, bad}},
		{shop(), state(nil, nil, list(row(missing()))), [3]api.Errno{bad, bad, bad}},
		// Rows of another table, of another length, and with cells that are not valid.
		{shop(), state(nil, list(row(text("ann"), num(1))), nil), [3]api.Errno{bad, bad, bad}},
		{shop(), state(list(row(text("ann"))), nil, nil), [3]api.Errno{bad, bad, bad}},
		{shop(), state(list(row(text("ann"), num(1), num(1))), nil, nil), [3]api.Errno{bad, bad, bad}},
		{shop(), state(list(nil), nil, nil), [3]api.Errno{bad, bad, bad}},
		{shop(), state(list(row(text(strings.Repeat("a", 65)), num(1))), nil, nil), [3]api.Errno{bad, bad, bad}},
		{shop(), state(nil, nil, list(row(api.Value{Kind: kb, Int: 2}))), [3]api.Errno{bad, bad, bad}},
		{one(1, ki, ki), state(list(row(num(1), api.Value{Kind: api.KindHidden, Int: 1}))), [3]api.Errno{bad, bad, bad}},
	} {
		expectCheck(t, c.s, c.st, c.want[:]...)
	}
}

// P8.1: the keys of each list strictly ascend, whatever stands behind them.
func TestCheckKeys(t *testing.T) {
	for _, c := range []struct {
		key  int
		rows []api.Row
		want api.Errno
	}{
		{1, list(row(num(1), num(9)), row(num(2), num(8)), row(num(3), num(7))), api.OK},
		{1, list(row(num(-1), num(9)), row(num(0), num(9)), row(num(1), num(9))), api.OK},
		{1, list(row(num(1), num(9)), row(num(1), num(9))), api.ErrState},
		{1, list(row(num(1), num(8)), row(num(1), num(9))), api.ErrState},
		{1, list(row(num(2), num(8)), row(num(1), num(9))), api.ErrState},
		{1, list(row(num(1), num(1)), row(num(3), num(1)), row(num(2), num(1))), api.ErrState},
		{1, list(row(num(1), num(1)), row(num(2), num(1)), row(num(2), num(2))), api.ErrState},
		{1, list(row(num(2), num(1)), row(num(1), num(1)), row(num(3), num(1))), api.ErrState},
		{2, list(row(num(1), num(8)), row(num(1), num(9))), api.OK},
		{2, list(row(num(1), num(9)), row(num(2), num(8))), api.OK},
		{2, list(row(num(1), num(9)), row(num(1), num(8))), api.ErrState},
		{2, list(row(num(1), num(9)), row(num(1), num(9))), api.ErrState},
		{2, list(row(num(2), num(1)), row(num(1), num(2))), api.ErrState},
	} {
		want := []api.Errno{c.want, c.want, c.want}
		expectCheck(t, one(c.key, ki, ki), state(c.rows), want...)
		two := one(c.key, ki, ki)
		two.Tables = append(two.Tables, api.Table{Name: "u", Columns: columns(ki, ki), Key: c.key})
		expectCheck(t, two, state(numbers(1, 3), c.rows), want...)
		expectCheck(t, two, state(c.rows, numbers(1, 3)), want...)
	}
	texts := list(row(text("")), row(text("\x00")), row(text("a")), row(text("a\x00")), row(text("\xff")))
	expectCheck(t, one(1, kt), state(texts), api.OK, api.OK, api.OK)
	slices.Reverse(texts)
	expectCheck(t, one(1, kt), state(texts), api.ErrState, api.ErrState, api.ErrState)
}

// P8.1: MaxRows, over all lists together, also over those that the schema has not.
func TestCheckLimit(t *testing.T) {
	two := one(1, ki, ki)
	two.Tables = append(two.Tables, api.Table{Name: "u", Columns: columns(ki, ki), Key: 1})
	same := make([]api.Row, 513)
	for _, c := range []struct {
		s    api.Schema
		st   api.State
		want api.Errno
	}{
		{one(1, ki, ki), state(numbers(0, 512)), api.OK},
		{one(1, ki, ki), state(numbers(0, 513)), api.ErrLimit},
		{two, state(numbers(0, 100), numbers(0, 412)), api.OK},
		{two, state(numbers(0, 100), numbers(0, 413)), api.ErrLimit},
		{two, state(numbers(0, 101), numbers(0, 412)), api.ErrLimit},
		{two, state(nil, numbers(0, 512)), api.OK},
		{two, state(nil, numbers(0, 513)), api.ErrLimit},
		{one(1, ki, ki), state(numbers(0, 256), numbers(0, 256)), api.ErrState},
		{one(1, ki, ki), state(numbers(0, 256), numbers(0, 257)), api.ErrLimit},
		{one(1, ki, ki), state(nil, nil, numbers(0, 513)), api.ErrLimit},
		{one(1, ki, ki), state(same), api.ErrLimit},
		{one(1, ki, ki), state(same[:512]), api.ErrState},
		{api.Schema{}, state(same), api.ErrLimit},
	} {
		expectCheck(t, c.s, c.st, c.want, c.want, c.want)
	}
}

// faultySchemas returns schemas that schema.Check refuses, with its errors.
func faultySchemas() map[api.Errno]api.Schema {
	version, check, many := shop(), shop(), shop()
	version.Version = -1
	check.Tables[2].Checks = []api.Predicate{{}}
	many.Tables = make([]api.Table, 9)
	return map[api.Errno]api.Schema{api.ErrSchema: version, api.ErrPredicate: check, api.ErrLimit: many}
}

// P8.1: of several errors the first one of the list, for each choice of flaws.
func TestCheckOrder(t *testing.T) {
	states := []struct {
		st   api.State
		want api.Errno
	}{
		{open(), api.OK},
		{state(nil), api.ErrState},
		{state(list(row(text("b"), num(1)), row(text("a"), num(1))), nil, nil), api.ErrState},
		{state(list(row(text("b"))), nil, nil), api.ErrState},
		{state(make([]api.Row, 513), nil, nil), api.ErrLimit},
		{state(make([]api.Row, 513)), api.ErrLimit},
	}
	for _, c := range states {
		for _, mode := range []int{math.MinInt, -1, 0, 1, 2, 3, 4, 5, math.MaxInt} {
			want := c.want
			if mode < 1 || mode > 3 {
				want = api.ErrArg
			}
			if got := table.Check(shop(), mode, c.st); got != want {
				t.Errorf("Check of %s in mode %d = %d, want %d", short(c.st), mode, got, want)
			}
			for errno, s := range faultySchemas() {
				if got := table.Check(s, mode, c.st); got != errno {
					t.Errorf("Check of %s in mode %d = %d, want %d of the schema", short(c.st), mode, got, errno)
				}
			}
		}
	}
}

// P8.1: the state without rows is valid, and a schema that is refused has none.
func TestEmpty(t *testing.T) {
	for _, s := range []api.Schema{shop(), one(1, ki), {}, {Version: 1000}} {
		st, errno := table.Empty(s)
		if errno != api.OK || len(st.Tables) != len(s.Tables) || table.Count(st) != 0 {
			t.Errorf("Empty = %v, %d", st, errno)
		}
		expectCheck(t, s, st, api.OK, api.OK, api.OK)
	}
	for want, s := range faultySchemas() {
		if st, errno := table.Empty(s); errno != want || st.Tables != nil {
			t.Errorf("Empty = %v, %d, want %d", st, errno, want)
		}
	}
	st, _ := table.Empty(shop())
	st.Tables[0] = append(st.Tables[0], row(num(1)))
	if again, _ := table.Empty(shop()); table.Count(again) != 0 {
		t.Error("Empty keeps what it returned")
	}
}

// expectGet checks what Get returns. Where no row is wanted, want is nil.
func expectGet(t *testing.T, s api.Schema, st api.State, index int, key, want api.Row) {
	t.Helper()
	got, found := table.Get(s, st, index, key)
	if !slices.Equal(got, want) || found != (want != nil) {
		t.Errorf("Get(%s, %d, %v) = %v, %v, want %v", short(st), index, key, got, found, want)
	}
}

// P8.2: each row of a state is found by its key, and nothing else is.
func TestGet(t *testing.T) {
	s, st := shop(), open()
	for i, n := range []int{1, 3, 1} {
		for _, r := range st.Tables[i] {
			expectGet(t, s, st, i, r[:n], r)
			expectGet(t, s, st, i, r[:n-1], nil)
			expectGet(t, s, st, i, append(slices.Clone(r[:n]), num(1)), nil)
		}
		expectGet(t, s, st, i, nil, nil)
		expectGet(t, s, st, i, row(), nil)
	}
	expectGet(t, s, st, 0, row(text("bo")), nil)
	expectGet(t, s, st, 0, row(text("cat")), nil)
	expectGet(t, s, st, 0, row(text("")), nil)
	expectGet(t, s, st, 0, row(num(30)), nil)
	expectGet(t, s, st, 0, row(text("ann"), num(30)), nil)
	expectGet(t, s, st, 1, row(num(1), text("ann"), num(7)), nil)
	expectGet(t, s, st, 1, row(num(2), text("bob"), num(2)), nil)
	expectGet(t, s, st, 1, row(num(1), text("ann"), num(5), no()), nil)
	expectGet(t, s, state(nil, nil, nil), 0, row(text("ann")), nil)
}

// P8.2: no such table, or no such list.
func TestGetNoTable(t *testing.T) {
	r := row(text("ann"), num(30))
	for _, index := range []int{math.MinInt, -2, -1, 3, 4, math.MaxInt} {
		expectGet(t, shop(), open(), index, row(text("ann")), nil)
		expectGet(t, shop(), open(), index, nil, nil)
	}
	expectGet(t, shop(), state(list(r)), 0, row(text("ann")), r)
	expectGet(t, shop(), state(list(r)), 1, row(text("ann")), nil)
	expectGet(t, shop(), api.State{}, 0, row(text("ann")), nil)
	expectGet(t, shop(), state(nil, nil, nil, list(r)), 3, row(text("ann")), nil)
	expectGet(t, shop(), state(nil, nil, nil, list(r)), 3, nil, nil)
	expectGet(t, api.Schema{}, state(list(r)), 0, row(text("ann")), nil)
	expectGet(t, api.Schema{}, state(list(r)), 0, nil, nil)
}

// P8.2: states that are not valid: rows in any order, twice, too short, too long, or with odd cells.
func TestGetAnyState(t *testing.T) {
	odd := api.Value{Kind: -7, Int: 3, Text: "x"}
	rows := list(
		row(num(9), num(1)), row(num(1), num(2)), row(num(5), num(3)), row(num(1), num(4)), row(num(3)), nil, row(num(3), num(5)),
		row(odd, num(6)), row(num(4), num(7), num(8)), row(hidden(), num(9)), row(api.Value{Kind: api.KindHidden, Int: 1}, num(10)), row(num(8), odd),
	)
	st := state(rows)
	s := one(1, ki, ki)
	for _, i := range []int{0, 1, 2, 4, 7, 8, 9, 10, 11} {
		expectGet(t, s, st, 0, rows[i][:1], rows[i])
	}
	expectGet(t, s, st, 0, nil, api.Row{})
	expectGet(t, s, st, 0, row(num(4), num(7)), nil)
	expectGet(t, s, st, 0, row(api.Value{Kind: -7, Int: 3}), nil)
	expectGet(t, s, st, 0, row(missing()), nil)
	// A row that is shorter than the key is its own key.
	s = one(2, ki, ki)
	expectGet(t, s, st, 0, row(num(3)), row(num(3)))
	expectGet(t, s, st, 0, row(num(3), num(5)), row(num(3), num(5)))
	expectGet(t, s, st, 0, row(num(1)), nil)
	expectGet(t, s, st, 0, nil, api.Row{})
	expectGet(t, s, st, 0, row(num(4), num(7)), rows[8])
	expectGet(t, s, st, 0, row(num(8), odd), rows[11])
	s = one(math.MaxInt, ki)
	expectGet(t, s, st, 0, row(num(4), num(7)), nil)
	expectGet(t, s, st, 0, row(num(4), num(7), num(8)), rows[8])
}

// P8.8: without key cells an empty key finds the first row, and no other key does.
func TestGetWithoutKey(t *testing.T) {
	st := state(list(row(num(7), num(1)), row(num(2), num(2))))
	for _, key := range []int{0, -1, math.MinInt} {
		expectGet(t, one(key, ki, ki), st, 0, nil, row(num(7), num(1)))
		expectGet(t, one(key, ki, ki), st, 0, row(), row(num(7), num(1)))
		expectGet(t, one(key, ki, ki), st, 0, row(num(7)), nil)
		expectGet(t, one(key, ki, ki), state(nil), 0, nil, nil)
		expectGet(t, one(key), state(list(nil)), 0, nil, api.Row{})
	}
}

// P8.2: the rows of all lists, also those of a state that is not valid.
func TestCount(t *testing.T) {
	for _, c := range []struct {
		st   api.State
		want int
	}{
		{api.State{}, 0}, {state(nil, nil), 0}, {open(), 8}, {state(list(nil, nil)), 2}, {state(numbers(0, 600), nil, numbers(0, 1)), 601},
		{state(make([]api.Row, 0, 9)), 0},
	} {
		if got := table.Count(c.st); got != c.want {
			t.Errorf("Count(%s) = %d, want %d", short(c.st), got, c.want)
		}
	}
}

// expectWithin checks what Within returns.
func expectWithin(t *testing.T, s api.Schema, a, b api.State, want bool) {
	t.Helper()
	if got := table.Within(s, a, b); got != want {
		t.Errorf("Within(%s, %s) = %v", short(a), short(b), got)
	}
}

// P8.6: rows and cells that b has, or has not.
func TestWithin(t *testing.T) {
	s, b := one(1, ki, ki, kt), state(list(row(num(1), num(5), text("a")), row(num(2), hidden(), text("b")), row(num(4), missing(), text("c"))))
	for _, c := range []struct {
		row  api.Row
		want bool
	}{
		{row(num(1), num(5), text("a")), true}, {row(num(1), missing(), text("a")), true}, {row(num(1), num(5), missing()), true},
		{row(num(1), missing(), missing()), true}, {row(num(2), hidden(), text("b")), true}, {row(num(2), missing(), text("b")), true},
		{row(num(4), missing(), text("c")), true}, {row(num(4), missing(), missing()), true},
		// Another cell.
		{row(num(1), num(6), text("a")), false}, {row(num(1), num(5), text("b")), false}, {row(num(1), missing(), text("b")), false},
		{row(num(1), hidden(), text("a")), false}, {row(num(2), num(5), text("b")), false}, {row(num(4), hidden(), text("c")), false},
		{row(num(4), num(5), text("c")), false}, {row(num(1), text("5"), text("a")), false},
		// Another key.
		{row(num(3), num(5), text("a")), false}, {row(num(0), missing(), missing()), false}, {row(num(5), missing(), missing()), false},
		{row(missing(), num(5), text("a")), false}, {row(text("a"), missing(), missing()), false},
		// Another length.
		{row(num(1), num(5)), false}, {row(num(1)), false}, {nil, false}, {row(num(1), num(5), text("a"), missing()), false},
		{row(num(1), missing(), missing(), num(1)), false},
		// Odd cells: a cell is Missing by its Kind alone, but not in b, and not in the key.
		{row(num(1), api.Value{Kind: api.KindMissing, Int: 9}, text("a")), true}, {row(num(1), num(5), api.Value{Kind: api.KindMissing, Text: "z"}), true},
		{row(num(4), api.Value{Kind: api.KindMissing, Int: 9}, text("c")), true}, {row(num(2), api.Value{Kind: api.KindHidden, Int: 1}, text("b")), false},
		{row(num(1), api.Value{}, text("a")), false}, {row(num(1), api.Value{Kind: ki, Int: 5, Text: "x"}, text("a")), false},
	} {
		expectWithin(t, s, state(list(c.row)), b, c.want)
		expectWithin(t, s, state(list(row(num(1), num(5), text("a")), c.row)), b, c.want)
		expectWithin(t, s, state(list(c.row, row(num(2), hidden(), missing()))), b, c.want)
		expectWithin(t, s, state(list(c.row, row(num(3), hidden(), missing()))), b, false)
		expectWithin(t, s, b, state(append(list(c.row), b.Tables[0][1:]...)), slices.Equal(c.row, b.Tables[0][0]))
	}
	expectWithin(t, s, state(nil), b, true)
	expectWithin(t, s, b, state(nil), false)
	expectWithin(t, s, b, b, true)
}

// P8.6: lists that have no table, or no list in b.
func TestWithinLists(t *testing.T) {
	r := list(row(text("ann"), num(30)))
	for _, c := range []struct {
		a, b api.State
		want bool
	}{
		{api.State{}, api.State{}, true}, {api.State{}, open(), true}, {state(nil, nil, nil), open(), true}, {open(), open(), true},
		{open(), api.State{}, false}, {state(nil, nil, nil), api.State{}, true}, {state(nil, nil, nil, nil, nil), api.State{}, true},
		{state(r), open(), true}, {state(r), state(r), true}, {state(r, nil, nil, nil), state(r), true}, {state(r), api.State{}, false},
		{state(nil, r), state(r), false}, {state(nil, r), state(r, r), true}, {state(nil, r), state(r, nil), false}, {state(r), state(nil, r), false},
		{state(nil, nil, r), state(nil, nil, r), true}, {state(nil, nil, nil, r), state(nil, nil, nil, r), false},
		{state(r, nil, nil, r), state(r, nil, nil, r), false}, {state(nil, nil, nil, list(nil)), state(nil, nil, nil, list(nil)), false},
		{state(nil, nil, nil, nil, nil, list(nil)), open(), false}, {state(r, nil, nil, []api.Row{}), open(), true},
	} {
		expectWithin(t, shop(), c.a, c.b, c.want)
	}
	expectWithin(t, api.Schema{}, state(nil, nil), api.State{}, true)
	expectWithin(t, api.Schema{}, state(r), state(r), false)
	expectWithin(t, api.Schema{}, state(list(nil)), state(list(nil)), false)
}

// P8.6 and P8.8: of several rows with one key Get returns the first one, and that one is looked at.
func TestWithinFirst(t *testing.T) {
	s := one(1, ki, ki)
	b := state(list(row(num(9), num(1)), row(num(1), num(2)), row(num(5), num(3)), row(num(1), num(1)), row(num(9), num(0)), row(num(1), num(2))))
	for _, c := range []struct {
		r    api.Row
		want bool
	}{
		{row(num(9), num(1)), true}, {row(num(9), num(0)), false}, {row(num(1), num(2)), true}, {row(num(1), num(1)), false}, {row(num(5), num(3)), true},
		{row(num(1), missing()), true},
	} {
		expectWithin(t, s, state(list(c.r)), b, c.want)
		expectWithin(t, s, state(list(row(num(5), num(3)), c.r, c.r)), b, c.want)
	}
	expectWithin(t, s, b, b, false)
	for _, key := range []int{0, -1, math.MinInt} {
		s := one(key, ki, ki)
		expectWithin(t, s, state(list(row(num(9), num(1)), row(num(9), missing()), row(missing(), num(1)))), b, true)
		expectWithin(t, s, state(list(row(num(1), num(2)))), b, false)
		expectWithin(t, s, state(list(row(missing(), missing()))), state(nil), false)
	}
	long := one(3, ki, ki)
	expectWithin(t, long, b, b, true)
	expectWithin(t, long, state(list(row(num(1), num(2)), row(num(1)))), b, false)
	expectWithin(t, long, state(list(row(num(1), missing()))), b, false)
}

// anyState returns a state of any number of lists, of any rows in any order.
func anyState(random *rand.Rand) api.State {
	cells := []api.Value{missing(), hidden(), num(0), num(1), num(2), {Kind: api.KindMissing, Int: 1}}
	lists := make([][]api.Row, random.Intn(4))
	for i := range lists {
		lists[i] = make([]api.Row, random.Intn(6))
		for j := range lists[i] {
			for range random.Intn(4) {
				lists[i][j] = append(lists[i][j], cells[random.Intn(len(cells))])
			}
		}
	}
	return state(lists...)
}

// withinByGet is Within by the words of P8.6.
func withinByGet(s api.Schema, keys []int, a, b api.State) bool {
	for i, rows := range a.Tables {
		for _, r := range rows {
			if i >= len(s.Tables) {
				return false
			}
			other, found := table.Get(s, b, i, r[:min(max(keys[i], 0), len(r))])
			if !found || len(other) != len(r) {
				return false
			}
			for j, cell := range r {
				if cell.Kind != api.KindMissing && cell != other[j] {
					return false
				}
			}
		}
	}
	return true
}

// P8.2, P8.6 and P8.8: any states, against the words of the promises.
func TestAnyStates(t *testing.T) {
	random := rand.New(rand.NewSource(8))
	counts := map[bool]int{}
	for range 30000 {
		keys := []int{random.Intn(5) - 1, random.Intn(5) - 1}
		s := api.Schema{Tables: []api.Table{{Columns: columns(ki, ki), Key: keys[0]}, {Key: keys[1]}}}
		b := anyState(random)
		a := anyState(random)
		for i := range a.Tables {
			for j := range a.Tables[i] {
				if i < len(b.Tables) && len(b.Tables[i]) > 0 && random.Intn(8) > 0 {
					r := slices.Clone(b.Tables[i][random.Intn(len(b.Tables[i]))])
					if len(r) > 0 && random.Intn(2) == 0 {
						r[len(r)-1] = missing()
					}
					a.Tables[i][j] = r
				}
			}
		}
		want := withinByGet(s, keys, a, b)
		expectWithin(t, s, a, b, want)
		if table.Count(a) > 0 {
			counts[want]++
		}
		index := random.Intn(4) - 1
		key := anyState(random).Tables
		if len(key) > 0 && len(key[0]) > 0 {
			expectGet(t, s, b, index, key[0][0], getByWords(keys, b, index, key[0][0]))
		}
	}
	if counts[true] < 2000 || counts[false] < 2000 {
		t.Errorf("the states are no good ones: %v", counts)
	}
}

// getByWords is Get by the words of P8.2.
func getByWords(keys []int, st api.State, index int, key api.Row) api.Row {
	if index < 0 || index >= len(keys) || index >= len(st.Tables) {
		return nil
	}
	for _, r := range st.Tables[index] {
		if slices.Equal(r[:min(max(keys[index], 0), len(r))], key) {
			return append(api.Row{}, r...)
		}
	}
	return nil
}

// P8.6: large lists, also ones in no order, are compared in reasonable time.
func TestWithinLarge(t *testing.T) {
	random := rand.New(rand.NewSource(88))
	rows := numbers(0, 30000)
	mixed := slices.Clone(rows)
	random.Shuffle(len(mixed), func(i, j int) { mixed[i], mixed[j] = mixed[j], mixed[i] })
	s := one(1, ki, ki)
	expectWithin(t, s, state(rows), state(mixed), true)
	expectWithin(t, s, state(mixed), state(rows), true)
	expectWithin(t, s, state(mixed), state(mixed[1:]), false)
	expectWithin(t, s, state(mixed), state(append(list(row(num(7), num(1))), mixed...)), false)
}

// P8.7: for valid states Within is reflexive and transitive.
func TestWithinOrder(t *testing.T) {
	random := rand.New(rand.NewSource(86))
	counts := map[bool]int{}
	for range 3000 {
		c := randomState(random, api.ModeLocal)
		b := blanked(random, c)
		a := blanked(random, b)
		other := blanked(random, c)
		for _, st := range []api.State{a, b, c, other} {
			expectWithin(t, shop(), st, st, true)
		}
		expectWithin(t, shop(), a, b, true)
		expectWithin(t, shop(), a, c, true)
		expectWithin(t, shop(), other, c, true)
		ab := table.Within(shop(), a, other)
		counts[ab]++
		if ab && table.Within(shop(), other, b) {
			expectWithin(t, shop(), a, b, true)
		}
	}
	if counts[true] < 100 || counts[false] < 100 {
		t.Errorf("the states are no good ones: %v", counts)
	}
}

// blanked returns a valid state that is Within st: some rows, and some of their cells.
func blanked(random *rand.Rand, st api.State) api.State {
	lists := make([][]api.Row, len(st.Tables))
	for i, rows := range st.Tables {
		for _, r := range rows {
			if random.Intn(6) == 0 {
				continue
			}
			r = slices.Clone(r)
			for j := keys()[i]; j < len(r); j++ {
				if random.Intn(5) == 0 {
					r[j] = missing()
				}
			}
			lists[i] = append(lists[i], r)
		}
	}
	return state(lists...)
}

// spoil overwrites all rows of the lists, and their unused capacity.
func spoil(st api.State) {
	for _, rows := range st.Tables {
		for _, r := range rows {
			spoilRow(r)
		}
		rows = rows[:cap(rows)]
		for i := range rows {
			rows[i] = row(text("spoilt"))
		}
	}
	lists := st.Tables[:cap(st.Tables)]
	for i := range lists {
		lists[i] = list(row(text("spoilt")))
	}
}

// spoilRow overwrites the cells of the row, and its unused capacity.
func spoilRow(r api.Row) {
	r = r[:cap(r)]
	for i := range r {
		r[i] = text("spoilt")
	}
}

// R2: the row that Get returns is its own.
func TestGetMemory(t *testing.T) {
	st := open()
	r, _ := table.Get(shop(), st, 1, row(num(1), text("ann"), num(6)))
	again, _ := table.Get(shop(), st, 1, row(num(1), text("ann"), num(6)))
	spoilRow(r)
	if !sameState(st, open()) || !slices.Equal(again, open().Tables[1][1]) {
		t.Errorf("Get shares memory: %v, %v", st, again)
	}
}

// roomy returns the state with unused capacity everywhere, filled with rows of the same kinds.
func roomy(st api.State) api.State {
	lists := make([][]api.Row, 0, len(st.Tables)+2)
	for _, rows := range st.Tables {
		more := make([]api.Row, 0, len(rows)+3)
		for _, r := range rows {
			more = append(more, append(append(make(api.Row, 0, len(r)+2), r...), num(77), num(78))[:len(r)])
		}
		lists = append(lists, append(more, row(num(79)), row(num(80)), row(num(81)))[:len(rows)])
	}
	return state(append(lists, list(row(num(82))), nil)[:len(st.Tables)]...)
}

// whole returns the state with its unused capacity.
func whole(st api.State) api.State {
	lists := slices.Clone(st.Tables[:cap(st.Tables)])
	for i, rows := range lists {
		lists[i] = slices.Clone(rows[:cap(rows)])
		for j, r := range lists[i] {
			lists[i][j] = r[:cap(r)]
		}
	}
	return state(lists...)
}

// R2: Check, Get, Count and Within leave their arguments as they are, unused capacity included.
func TestArgumentsStay(t *testing.T) {
	build := func() (api.Schema, api.State, api.State, api.Row) {
		turned := open()
		for _, rows := range turned.Tables {
			slices.Reverse(rows)
		}
		return shop(), roomy(open()), roomy(turned), row(text("ann"), num(9))[:1]
	}
	s, st, turned, key := build()
	run := func(s api.Schema, st, turned api.State, key api.Row) []any {
		r, found := table.Get(s, turned, 0, key)
		empty, errno := table.Empty(s)
		return []any{
			table.Check(s, 1, st), table.Check(s, 1, turned), table.Count(turned), r, found, empty, errno,
			table.Within(s, st, turned), table.Within(s, turned, st), table.Within(s, turned, turned),
		}
	}
	first := run(s, st, turned, key)
	s2, st2, turned2, key2 := build()
	if !reflect.DeepEqual(s, s2) || !reflect.DeepEqual(whole(st), whole(st2)) || !reflect.DeepEqual(whole(turned), whole(turned2)) || !slices.Equal(key[:2], key2[:2]) {
		t.Error("an argument has changed")
	}
	spoil(st)
	spoil(turned)
	spoilRow(key)
	s.Tables[0].Key = 2
	if again := run(build()); !reflect.DeepEqual(first, again) || first[0] != api.OK || first[4] != true || first[8] != true {
		t.Errorf("the results were %v, and are now %v", first, again)
	}
}
