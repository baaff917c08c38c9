package integrity_test

import (
	"fmt"
	"math"
	"math/rand"
	"slices"
	"testing"

	"partsync/api"
	"partsync/integrity"
	"partsync/predicate"
	"partsync/table"
)

const (
	kb = api.KindBool
	ki = api.KindInt
	kt = api.KindText
)

func missing() api.Value      { return api.Value{Kind: api.KindMissing} }
func hidden() api.Value       { return api.Value{Kind: api.KindHidden} }
func no() api.Value           { return api.Value{Kind: kb} }
func yes() api.Value          { return api.Value{Kind: kb, Int: 1} }
func num(n int64) api.Value   { return api.Value{Kind: ki, Int: n} }
func text(s string) api.Value { return api.Value{Kind: kt, Text: s} }

func row(cells ...api.Value) api.Row { return cells }

func list(rows ...api.Row) []api.Row { return rows }

func state(lists ...[]api.Row) api.State { return api.State{Tables: lists} }

func col(i int) api.Operand       { return api.Operand{Kind: api.OperandColumn, Index: i} }
func val(v api.Value) api.Operand { return api.Operand{Kind: api.OperandValue, Value: v} }

func compare(left api.Operand, cmp int, right api.Operand) api.Predicate {
	return api.Predicate{Op: api.PredCompare, Cmp: cmp, Left: left, Right: right}
}

func always() api.Predicate { return api.Predicate{Op: api.PredTrue} }
func never() api.Predicate  { return api.Predicate{Op: api.PredFalse} }

func not(p api.Predicate) api.Predicate {
	return api.Predicate{Op: api.PredNot, Args: []api.Predicate{p}}
}

func checks(all ...api.Predicate) []api.Predicate { return all }

func to(index int, columns ...int) api.Reference {
	return api.Reference{Table: index, Columns: columns}
}

func references(all ...api.Reference) []api.Reference { return all }

// columns returns columns of these kinds, with the names a, b, and so on.
func columns(kinds ...int) []api.Column {
	var all []api.Column
	for i, kind := range kinds {
		all = append(all, api.Column{Name: string(rune('a' + i)), Kind: kind})
	}
	return all
}

// broken is a violation of a reference, failed one of a check.
func broken(table, index int, key ...api.Value) api.Violation {
	return api.Violation{Kind: api.ViolatesReference, Table: table, Key: key, Index: index}
}

func failed(table, index int, key ...api.Value) api.Violation {
	return api.Violation{Kind: api.ViolatesCheck, Table: table, Key: key, Index: index}
}

func violations(all ...api.Violation) []api.Violation { return all }

// yard is a schema with the tables sites (country, number | open), people (id | boss, name, country, number),
// shifts (number, country, person, night |), flags (on |) and lamps (id | on). Its references name a table before
// their own, behind it, and their own; columns in the order of the table and in another one.
func yard() api.Schema {
	return api.Schema{Version: 2, Tables: []api.Table{
		{Name: "sites", Columns: columns(kt, ki, kb), Key: 2, Checks: checks(compare(col(1), api.CmpGe, val(num(0))))},
		{Name: "people", Columns: columns(ki, ki, kt, kt, ki), Key: 1, References: references(to(1, 1), to(0, 3, 4)),
			Checks: checks(not(compare(col(2), api.CmpEq, val(text("")))), compare(col(1), api.CmpLe, col(0)))},
		{Name: "shifts", Columns: columns(ki, kt, ki, kb), Key: 4, References: references(to(0, 1, 0), to(1, 2), to(3, 3))},
		{Name: "flags", Columns: columns(kb), Key: 1},
		{Name: "lamps", Columns: columns(ki, kb), Key: 1, References: references(to(3, 1)), Checks: checks(always())},
	}}
}

// sound is a state of the yard without violations.
func sound() api.State {
	return state(
		list(row(text("at"), num(1), yes()), row(text("at"), num(2), no()), row(text("be"), num(1), no())),
		list(row(num(1), num(1), text("ann"), text("at"), num(1)), row(num(2), num(1), text("bob"), text("at"), num(2)), row(num(3), num(2), text("cat"), text("at"), num(1))),
		list(row(num(1), text("at"), num(1), yes()), row(num(1), text("be"), num(3), yes()), row(num(2), text("at"), num(1), no())),
		list(row(no()), row(yes())),
		list(row(num(1), no()), row(num(2), yes())),
	)
}

// with returns the sound state with other rows in a table.
func with(table int, rows ...api.Row) api.State {
	st := sound()
	st.Tables[table] = rows
	return st
}

// short returns what is at most 400 bytes of the value's text.
func short(x any) string {
	s := fmt.Sprint(x)
	return s[:min(len(s), 400)]
}

func sameViolations(a, b []api.Violation) bool {
	return slices.EqualFunc(a, b, func(a, b api.Violation) bool {
		return a.Kind == b.Kind && a.Table == b.Table && slices.Equal(a.Key, b.Key) && a.Index == b.Index
	})
}

// expectViolations checks what Violations returns.
func expectViolations(t *testing.T, s api.Schema, st api.State, want []api.Violation, errno api.Errno) {
	t.Helper()
	got, e := integrity.Violations(s, st)
	if !sameViolations(got, want) || e != errno {
		t.Errorf("Violations of %s = %s, %d, want %s, %d", short(st), short(got), e, short(want), errno)
	}
}

// P9.1: no rows, and rows that violate nothing.
func TestNoViolations(t *testing.T) {
	expectViolations(t, yard(), sound(), nil, api.OK)
	expectViolations(t, yard(), state(nil, nil, nil, nil, nil), nil, api.OK)
	expectViolations(t, yard(), state(nil, []api.Row{}, nil, list(row(yes())), list(row(num(5), yes()))), nil, api.OK)
	expectViolations(t, api.Schema{}, api.State{}, nil, api.OK)
	loose := yard()
	for i := range loose.Tables {
		loose.Tables[i].References, loose.Tables[i].Checks = nil, nil
	}
	expectViolations(t, loose, with(1, row(num(1), num(9), text(""), text("zz"), num(-9))), nil, api.OK)
}

// P9.1: the cells must be the whole key of a row of the reference's table, in the order of the reference's columns.
func TestReferences(t *testing.T) {
	person := func(boss int64, country string, number int64) api.State {
		st := sound()
		st.Tables[1][0] = row(num(1), num(boss), text("ann"), text(country), num(number))
		return st
	}
	shift := func(cells ...api.Value) api.State { return with(2, cells) }
	for _, c := range []struct {
		st   api.State
		want []api.Violation
	}{
		{person(1, "be", 1), nil},
		{person(1, "be", 2), violations(broken(1, 1, num(1)))},
		{person(1, "at", 3), violations(broken(1, 1, num(1)))},
		{person(1, "at", 0), violations(broken(1, 1, num(1)))},
		{person(1, "a", 1), violations(broken(1, 1, num(1)))},
		{person(1, "at\x00", 1), violations(broken(1, 1, num(1)))},
		{person(1, "", math.MinInt64), violations(broken(1, 1, num(1)))},
		{person(0, "at", 1), violations(broken(1, 0, num(1)))},
		{person(math.MinInt64, "at", 1), violations(broken(1, 0, num(1)))},
		{person(-1, "at", 9), violations(broken(1, 0, num(1)), broken(1, 1, num(1)))},
		{shift(num(2), text("at"), num(3), no()), nil},
		{shift(num(2), text("be"), num(3), no()), violations(broken(2, 0, num(2), text("be"), num(3), no()))},
		{shift(num(2), text("at"), num(4), yes()), violations(broken(2, 1, num(2), text("at"), num(4), yes()))},
		{shift(num(3), text("be"), num(0), yes()), violations(broken(2, 0, num(3), text("be"), num(0), yes()), broken(2, 1, num(3), text("be"), num(0), yes()))},
		// A table without rows, and one with one row.
		{with(3), violations(
			broken(2, 2, num(1), text("at"), num(1), yes()), broken(2, 2, num(1), text("be"), num(3), yes()), broken(2, 2, num(2), text("at"), num(1), no()),
			broken(4, 0, num(1)), broken(4, 0, num(2)))},
		{with(3, row(yes())), violations(broken(2, 2, num(2), text("at"), num(1), no()), broken(4, 0, num(1)))},
		{with(1), violations(
			broken(2, 1, num(1), text("at"), num(1), yes()), broken(2, 1, num(1), text("be"), num(3), yes()), broken(2, 1, num(2), text("at"), num(1), no()))},
		// A reference to the same table finds its own row, and rows behind it.
		{with(1, row(num(-7), num(-7), text("x"), text("at"), num(2)), row(num(1), num(-7), text("x"), text("at"), num(2)), row(num(3), num(1), text("x"), text("at"), num(2))), nil},
		{with(1, row(num(1), num(3), text("x"), text("at"), num(2)), row(num(3), num(1), text("x"), text("at"), num(2))), violations(failed(1, 1, num(1)))},
	} {
		expectViolations(t, yard(), c.st, c.want, api.OK)
	}
}

// P9.1: references that name a column twice, that name the own key, and that are there twice.
func TestOddReferences(t *testing.T) {
	s := api.Schema{Tables: []api.Table{
		{Name: "pairs", Columns: columns(ki, ki), Key: 2, References: references(to(0, 0, 1), to(0, 1, 0), to(0, 1, 1), to(0, 1, 0))},
		{Name: "ones", Columns: columns(ki, ki, ki), Key: 1, References: references(to(0, 1, 1), to(1, 0), to(1, 2))},
	}}
	st := state(
		list(row(num(1), num(2)), row(num(2), num(1)), row(num(2), num(2)), row(num(3), num(1))),
		list(row(num(1), num(2), num(2)), row(num(2), num(1), num(3)), row(num(3), num(3), num(4))),
	)
	expectViolations(t, s, st, violations(
		broken(0, 2, num(2), num(1)), broken(0, 1, num(3), num(1)), broken(0, 2, num(3), num(1)), broken(0, 3, num(3), num(1)),
		broken(1, 0, num(2)), broken(1, 0, num(3)), broken(1, 2, num(3)),
	), api.OK)
}

// P9.1: only a key of the table counts, not other cells of its rows, and not keys of other tables.
func TestReferenceToKeyOnly(t *testing.T) {
	s := api.Schema{Tables: []api.Table{
		{Name: "a", Columns: columns(ki, ki), Key: 1},
		{Name: "b", Columns: columns(ki, ki), Key: 1},
		{Name: "c", Columns: columns(ki, ki), Key: 1, References: references(to(0, 1))},
	}}
	st := state(list(row(num(1), num(5))), list(row(num(2), num(5))), list(row(num(1), num(1)), row(num(3), num(5)), row(num(4), num(2)), row(num(5), num(4))))
	expectViolations(t, s, st, violations(broken(2, 0, num(3)), broken(2, 0, num(4)), broken(2, 0, num(5))), api.OK)
}

// P9.1: every check that does not hold, whatever the other ones do.
func TestChecks(t *testing.T) {
	for _, c := range []struct {
		checks []api.Predicate
		want   []api.Violation
	}{
		{nil, nil},
		{checks(always()), nil},
		{checks(never()), violations(failed(0, 0, num(1)), failed(0, 0, num(2)), failed(0, 0, num(3)))},
		{checks(compare(col(1), api.CmpLt, val(num(5)))), violations(failed(0, 0, num(3)))},
		{checks(compare(col(1), api.CmpGe, val(num(2)))), violations(failed(0, 0, num(1)))},
		{checks(compare(col(1), api.CmpEq, col(0))), violations(failed(0, 0, num(1)), failed(0, 0, num(3)))},
		{checks(compare(col(1), api.CmpEq, col(0)), compare(col(1), api.CmpNe, col(0))), violations(failed(0, 0, num(1)), failed(0, 1, num(2)), failed(0, 0, num(3)))},
		{checks(compare(col(2), api.CmpEq, val(text("b")))), violations(failed(0, 0, num(1)), failed(0, 0, num(3)))},
		{checks(never(), always(), never(), not(never())), violations(
			failed(0, 0, num(1)), failed(0, 2, num(1)), failed(0, 0, num(2)), failed(0, 2, num(2)), failed(0, 0, num(3)), failed(0, 2, num(3)))},
		{checks(always(), always(), always(), compare(col(0), api.CmpGt, val(num(1)))), violations(failed(0, 3, num(1)))},
	} {
		s := api.Schema{Tables: []api.Table{{Name: "t", Columns: columns(ki, ki, kt), Key: 1, Checks: c.checks}}}
		st := state(list(row(num(1), num(-1), text("")), row(num(2), num(2), text("b")), row(num(3), num(5), text("a"))))
		expectViolations(t, s, st, c.want, api.OK)
	}
	st := sound()
	st.Tables[0][2] = row(text("be"), num(-1), yes())
	st.Tables[1][1] = row(num(2), num(1), text(""), text("be"), num(-1))
	st.Tables[2] = nil
	expectViolations(t, yard(), st, violations(failed(0, 0, text("be"), num(-1)), failed(1, 0, num(2))), api.OK)
}

// P9.1: ascending by Table, then by Key, then by Kind, then by Index.
func TestOrder(t *testing.T) {
	st := state(
		list(row(text("at"), num(-2), yes()), row(text("at"), num(2), no()), row(text("be"), num(-1), no())),
		list(row(num(-4), num(9), text(""), text("x"), num(1)), row(num(3), num(3), text("a"), text("x"), num(1)), row(num(7), num(8), text("b"), text("at"), num(2))),
		list(row(num(2), text("at"), num(1), no()), row(num(2), text("ax"), num(1), no())),
		nil,
		list(row(num(1), no())),
	)
	expectViolations(t, yard(), st, violations(
		failed(0, 0, text("at"), num(-2)), failed(0, 0, text("be"), num(-1)),
		broken(1, 0, num(-4)), broken(1, 1, num(-4)), failed(1, 0, num(-4)), failed(1, 1, num(-4)), broken(1, 1, num(3)), broken(1, 0, num(7)), failed(1, 1, num(7)),
		broken(2, 1, num(2), text("at"), num(1), no()), broken(2, 2, num(2), text("at"), num(1), no()),
		broken(2, 0, num(2), text("ax"), num(1), no()), broken(2, 1, num(2), text("ax"), num(1), no()), broken(2, 2, num(2), text("ax"), num(1), no()),
		broken(4, 0, num(1)),
	), api.OK)
}

// P9.1: as many rows, tables, references and checks as there may be, all of them violated.
func TestMostViolations(t *testing.T) {
	s := api.Schema{}
	for i := range api.MaxTables {
		table := api.Table{Name: string(rune('a' + i)), Columns: columns(ki, ki, ki, ki, ki, ki, ki, ki), Key: 8}
		for range api.MaxReferences {
			table.References = append(table.References, to(0, 7, 6, 5, 4, 3, 2, 1, 0))
			table.Checks = append(table.Checks, never())
		}
		s.Tables = append(s.Tables, table)
	}
	st := state(make([][]api.Row, api.MaxTables)...)
	for n := range api.MaxRows {
		i := n / 64
		st.Tables[i] = append(st.Tables[i], row(num(int64(n)), num(1), num(2), num(3), num(4), num(5), num(6), num(-1)))
	}
	got, errno := integrity.Violations(s, st)
	if want := violationsByWords(s, st); errno != api.OK || len(got) != api.MaxRows*8 || !sameViolations(got, want) {
		t.Errorf("%d violations, %d", len(got), errno)
	}
}

// faultySchemas returns schemas that schema.Check refuses, with its errors.
func faultySchemas() map[api.Errno]api.Schema {
	reference, check, many := yard(), yard(), yard()
	reference.Tables[4].References = references(to(9, 1))
	check.Tables[4].Checks = checks(compare(col(1), api.CmpEq, api.Operand{Kind: api.OperandParam}))
	many.Tables[4].Checks = slices.Repeat(checks(always()), 5)
	return map[api.Errno]api.Schema{api.ErrSchema: reference, api.ErrPredicate: check, api.ErrLimit: many}
}

// crowded is a state of the yard with this many rows, and with violations.
func crowded(rows int) api.State {
	st := with(3)
	for n := 3; table.Count(st) < rows; n++ {
		st.Tables[4] = append(st.Tables[4], row(num(int64(n)), yes()))
	}
	return st
}

// faultyState is a state with the error of table.Check in ModeServer.
type faultyState struct {
	st    api.State
	errno api.Errno
}

// faultyStates returns states of the yard that table.Check refuses. They have violations, which are not returned.
func faultyStates() []faultyState {
	flagless := with(3)
	masked, unheld, turned, short := with(3), with(3), with(3), with(3)
	masked.Tables[1][0][2] = hidden()
	unheld.Tables[0][1][2] = missing()
	slices.Reverse(turned.Tables[4])
	short.Tables[1][2] = short.Tables[1][2][:4]
	return []faultyState{
		{api.State{}, api.ErrState},
		{state(flagless.Tables[:4]...), api.ErrState},
		{state(append(flagless.Tables, nil)...), api.ErrState},
		{masked, api.ErrState},
		{unheld, api.ErrState},
		{turned, api.ErrState},
		{short, api.ErrState},
		{with(3, row(yes()), row(yes())), api.ErrState},
		{with(3, row(num(1))), api.ErrState},
		{with(3, nil), api.ErrState},
		{with(3, row(api.Value{Kind: kb, Int: 2})), api.ErrState},
		{crowded(513), api.ErrLimit},
		{state(make([]api.Row, 513)), api.ErrLimit},
	}
}

// P9.1: the error of table.Check in ModeServer, and no violations with it.
func TestViolationsErrors(t *testing.T) {
	for _, c := range faultyStates() {
		expectViolations(t, yard(), c.st, nil, c.errno)
		for errno, s := range faultySchemas() {
			expectViolations(t, s, c.st, nil, errno)
		}
	}
	for errno, s := range faultySchemas() {
		expectViolations(t, s, with(3), nil, errno)
		expectViolations(t, s, state(nil, nil, nil, nil, nil), nil, errno)
	}
	expectViolations(t, yard(), crowded(512), violationsByWords(yard(), crowded(512)), api.OK)
}

// keyOf returns the row's key.
func keyOf(s api.Schema, table int, r api.Row) api.Row { return r[:s.Tables[table].Key] }

// cellsOf returns the cells that the reference names.
func cellsOf(r api.Row, ref api.Reference) api.Row {
	var cells api.Row
	for _, c := range ref.Columns {
		cells = append(cells, r[c])
	}
	return cells
}

// isKey tells whether the cells are the key of a row of the table.
func isKey(s api.Schema, st api.State, table int, cells api.Row) bool {
	return slices.ContainsFunc(st.Tables[table], func(r api.Row) bool { return slices.Equal(keyOf(s, table, r), cells) })
}

// violationsByWords is Violations for a valid state by the words of P9.1. It goes through the rows and what they
// may violate in the order of the result.
func violationsByWords(s api.Schema, st api.State) []api.Violation {
	var all []api.Violation
	for i, table := range s.Tables {
		for _, r := range st.Tables[i] {
			for j, ref := range table.References {
				if !isKey(s, st, ref.Table, cellsOf(r, ref)) {
					all = append(all, broken(i, j, keyOf(s, i, r)...))
				}
			}
			for j, check := range table.Checks {
				if !predicate.Holds(check, r, nil) {
					all = append(all, failed(i, j, keyOf(s, i, r)...))
				}
			}
		}
	}
	return all
}

// cells returns the few values of a kind that random rows have.
func cells(kind int) []api.Value {
	switch kind {
	case kb:
		return []api.Value{no(), yes()}
	case ki:
		return []api.Value{num(-1), num(0), num(1), num(2)}
	}
	return []api.Value{text(""), text("a"), text("a\x00"), text("b")}
}

// pick returns one of the list's elements.
func pick[T any](random *rand.Rand, list []T) T { return list[random.Intn(len(list))] }

// randomSchema returns a valid schema of one to four tables, with references and checks wherever they fit.
func randomSchema(random *rand.Rand) api.Schema {
	s := api.Schema{}
	for i := range 1 + random.Intn(4) {
		kinds := make([]int, 1+random.Intn(4))
		for j := range kinds {
			kinds[j] = pick(random, []int{kb, ki, ki, kt})
		}
		s.Tables = append(s.Tables, api.Table{Name: string(rune('a' + i)), Columns: columns(kinds...), Key: 1 + random.Intn(min(2, len(kinds)))})
	}
	for i := range s.Tables {
		for range random.Intn(5) {
			if ref, ok := randomReference(random, s, i); ok {
				s.Tables[i].References = append(s.Tables[i].References, ref)
			}
		}
		for range random.Intn(4) {
			s.Tables[i].Checks = append(s.Tables[i].Checks, randomCheck(random, s.Tables[i].Columns))
		}
	}
	return s
}

// randomReference returns a reference of the table to any table; false if its columns do not fit.
func randomReference(random *rand.Rand, s api.Schema, table int) (api.Reference, bool) {
	ref := to(random.Intn(len(s.Tables)))
	target := s.Tables[ref.Table]
	for _, column := range target.Columns[:target.Key] {
		c := random.Intn(len(s.Tables[table].Columns))
		if s.Tables[table].Columns[c].Kind != column.Kind {
			return ref, false
		}
		ref.Columns = append(ref.Columns, c)
	}
	return ref, true
}

// randomCheck returns a comparison with a value, or of two columns if these are of the same kind.
func randomCheck(random *rand.Rand, columns []api.Column) api.Predicate {
	a, b := random.Intn(len(columns)), random.Intn(len(columns))
	cmp := pick(random, []int{api.CmpNe, api.CmpLe, api.CmpGe, api.CmpEq})
	if a != b && columns[a].Kind == columns[b].Kind {
		return compare(col(a), cmp, col(b))
	}
	return compare(col(a), cmp, val(pick(random, cells(columns[a].Kind))))
}

func randomRow(random *rand.Rand, s api.Schema, table int) api.Row {
	var r api.Row
	for _, c := range s.Tables[table].Columns {
		r = append(r, pick(random, cells(c.Kind)))
	}
	return r
}

// P9.1: random schemas and states, by the words of the promise.
func TestViolationsRandom(t *testing.T) {
	random := rand.New(rand.NewSource(1))
	kinds := map[int]int{}
	for range 3000 {
		s := randomSchema(random)
		st := randomState(random, s, 12)
		want := violationsByWords(s, st)
		expectViolations(t, s, st, want, api.OK)
		for _, v := range want {
			kinds[v.Kind]++
		}
	}
	if kinds[api.ViolatesReference] < 3000 || kinds[api.ViolatesCheck] < 3000 {
		t.Errorf("only %v", kinds)
	}
}
