package integrity_test

import (
	"math/rand"
	"reflect"
	"slices"
	"testing"

	"partsync/api"
	"partsync/integrity"
	"partsync/table"
	"partsync/value"
)

func change(table int, old, new api.Row) api.Change {
	return api.Change{Table: table, Old: old, New: new}
}

func insert(table int, cells ...api.Value) api.Change { return change(table, nil, cells) }
func remove(table int, cells ...api.Value) api.Change { return change(table, cells, nil) }

func changes(all ...api.Change) []api.Change { return all }

// expectRecheck checks what Recheck returns.
func expectRecheck(t *testing.T, s api.Schema, st api.State, l []api.Change, want []api.Violation, errno api.Errno) {
	t.Helper()
	got, e := integrity.Recheck(s, st, l)
	if !sameViolations(got, want) || e != errno {
		t.Errorf("Recheck of %s = %s, %d, want %s, %d", short(l), short(got), e, short(want), errno)
	}
}

// The chapter's example.
func TestExample(t *testing.T) {
	s := api.Schema{Tables: []api.Table{
		{Name: "projects", Columns: columns(ki), Key: 1},
		{Name: "tasks", Columns: columns(ki, ki), Key: 1, References: references(to(0, 1))},
	}}
	st := state(list(row(num(1))), list(row(num(7), num(1))))
	want := violations(broken(1, 0, num(7)))
	expectRecheck(t, s, st, changes(remove(0, num(1))), want, api.OK)
	expectViolations(t, s, state(nil, st.Tables[1]), want, api.OK)
	expectViolations(t, s, st, nil, api.OK)
}

// P9.2: the rows that are written, with all that they violate.
func TestRecheckWritten(t *testing.T) {
	ann := row(num(1), num(1), text("ann"), text("at"), num(1))
	for _, c := range []struct {
		changes []api.Change
		want    []api.Violation
	}{
		{nil, nil},
		{changes(insert(1, num(4), num(4), text("d"), text("be"), num(1))), nil},
		{changes(insert(1, num(4), num(9), text(""), text("be"), num(2))), violations(broken(1, 0, num(4)), broken(1, 1, num(4)), failed(1, 0, num(4)), failed(1, 1, num(4)))},
		{changes(change(1, ann, row(num(1), num(1), text("eve"), text("be"), num(1)))), nil},
		{changes(change(1, ann, row(num(1), num(1), text("ann"), text("be"), num(2)))), violations(broken(1, 1, num(1)))},
		{changes(change(1, ann, row(num(1), num(3), text(""), text("at"), num(1)))), violations(failed(1, 0, num(1)), failed(1, 1, num(1)))},
		{changes(change(1, ann, row(num(1), num(8), text("x"), text("at"), num(1))), change(1, row(num(1), num(8), text("x"), text("at"), num(1)), ann)), nil},
		{changes(remove(1, ann...), insert(1, num(1), num(0), text("x"), text("at"), num(1))), violations(broken(1, 0, num(1)))},
		// A row that is there no longer violates nothing, whatever it was.
		{changes(insert(2, num(9), text("x"), num(9), no()), remove(2, num(9), text("x"), num(9), no())), nil},
		{changes(insert(0, text("x"), num(-1), no()), remove(0, text("x"), num(-1), no())), nil},
		// What is missing may come later, or before.
		{changes(insert(4, num(5), no()), remove(3, no()), insert(3, no())), nil},
		{changes(insert(1, num(8), num(7), text("x"), text("y"), num(1)), insert(1, num(7), num(7), text("x"), text("y"), num(1)), insert(0, text("y"), num(1), no())), nil},
		{changes(insert(0, text("y"), num(1), no()), insert(1, num(8), num(8), text("x"), text("y"), num(1))), nil},
		{changes(insert(0, text("y"), num(-1), no()), insert(0, text("a"), num(-5), no()), insert(0, text("b"), num(5), no())), violations(failed(0, 0, text("a"), num(-5)), failed(0, 0, text("y"), num(-1)))},
	} {
		expectRecheck(t, yard(), sound(), c.changes, c.want, api.OK)
	}
}

// P9.2: references to keys that are there no longer, from rows that are not written.
func TestRecheckRemoved(t *testing.T) {
	at1 := func(open api.Value) api.Row { return row(text("at"), num(1), open) }
	cat := row(num(3), num(2), text("cat"), text("at"), num(1))
	left := violations(broken(1, 1, num(1)), broken(1, 1, num(3)), broken(2, 0, num(1), text("at"), num(1), yes()))
	for _, c := range []struct {
		changes []api.Change
		want    []api.Violation
	}{
		{changes(remove(0, text("at"), num(1), yes())), left},
		{changes(change(0, at1(yes()), at1(no()))), nil},
		{changes(change(0, at1(yes()), at1(yes()))), nil},
		{changes(remove(0, at1(yes())...), insert(0, at1(yes())...)), nil},
		{changes(remove(0, at1(yes())...), insert(0, at1(no())...)), nil},
		{changes(change(0, at1(yes()), at1(no())), remove(0, at1(no())...)), left},
		{changes(remove(0, at1(yes())...), insert(0, at1(no())...), remove(0, at1(no())...)), left},
		{changes(remove(0, at1(yes())...), remove(1, cat...)), violations(broken(1, 1, num(1)), broken(2, 0, num(1), text("at"), num(1), yes()), broken(2, 1, num(1), text("be"), num(3), yes()))},
		{changes(remove(2, num(1), text("be"), num(3), yes()), remove(1, cat...)), nil},
		{changes(remove(1, cat...)), violations(broken(2, 1, num(1), text("be"), num(3), yes()))},
		{changes(remove(1, num(2), num(1), text("bob"), text("at"), num(2))), violations(broken(1, 0, num(3)))},
		{changes(remove(1, num(1), num(1), text("ann"), text("at"), num(1))), violations(broken(1, 0, num(2)), broken(2, 1, num(1), text("at"), num(1), yes()), broken(2, 1, num(2), text("at"), num(1), no()))},
		{changes(remove(0, text("be"), num(1), no()), insert(0, text("be"), num(2), no())), violations(broken(2, 0, num(1), text("be"), num(3), yes()))},
		{changes(remove(3, yes())), violations(broken(2, 2, num(1), text("at"), num(1), yes()), broken(2, 2, num(1), text("be"), num(3), yes()), broken(4, 0, num(2)))},
		{changes(remove(3, no()), remove(3, yes())), violations(
			broken(2, 2, num(1), text("at"), num(1), yes()), broken(2, 2, num(1), text("be"), num(3), yes()), broken(2, 2, num(2), text("at"), num(1), no()),
			broken(4, 0, num(1)), broken(4, 0, num(2)))},
		{changes(remove(4, num(1), no()), remove(4, num(2), yes())), nil},
		// Written rows and removed keys together.
		{changes(remove(3, no()), insert(4, num(0), no()), change(4, row(num(2), yes()), row(num(2), no()))), violations(
			broken(2, 2, num(2), text("at"), num(1), no()), broken(4, 0, num(0)), broken(4, 0, num(1)), broken(4, 0, num(2)))},
	} {
		expectRecheck(t, yard(), sound(), c.changes, c.want, api.OK)
	}
}

// faulty is a valid state of the yard with violations: three of the person 5, two of the person 6, one of a shift
// and a lamp.
func faulty() api.State {
	return state(
		list(row(text("at"), num(-1), yes()), row(text("at"), num(1), yes())),
		list(row(num(5), num(4), text(""), text("x"), num(1)), row(num(6), num(7), text("f"), text("at"), num(1))),
		list(row(num(1), text("x"), num(6), yes())),
		list(row(yes())),
		list(row(num(1), no())),
	)
}

// P9.2: violations that were there before are returned only if they are of a written row, or of a reference to a
// key that a change removed.
func TestRecheckOfOldViolations(t *testing.T) {
	five := violations(broken(1, 0, num(5)), broken(1, 1, num(5)), failed(1, 0, num(5)))
	six := violations(broken(1, 0, num(6)), failed(1, 1, num(6)))
	shift := broken(2, 0, num(1), text("x"), num(6), yes())
	expectViolations(t, yard(), faulty(), slices.Concat(violations(failed(0, 0, text("at"), num(-1))), five, six, violations(shift, broken(4, 0, num(1)))), api.OK)
	person := faulty().Tables[1][0]
	renamed := row(num(5), num(4), text("e"), text("x"), num(1))
	x1 := row(text("x"), num(1), no())
	for _, c := range []struct {
		changes []api.Change
		want    []api.Violation
	}{
		{nil, nil},
		{changes(insert(4, num(2), yes())), nil},
		{changes(insert(4, num(0), no())), violations(broken(4, 0, num(0)))},
		{changes(change(1, person, person)), five},
		{changes(change(1, person, renamed)), five[:2]},
		{changes(change(1, person, renamed), change(1, renamed, person)), five},
		{changes(remove(1, person...), insert(1, person...)), five},
		{changes(remove(1, person...)), nil},
		{changes(remove(0, text("at"), num(-1), yes())), nil},
		{changes(change(0, row(text("at"), num(-1), yes()), row(text("at"), num(-1), no()))), violations(failed(0, 0, text("at"), num(-1)))},
		// The references to a key that comes and goes were violated before: they are named all the same.
		{changes(insert(0, x1...)), nil},
		{changes(insert(0, x1...), remove(0, x1...)), violations(five[1], shift)},
		{changes(insert(3, no()), remove(3, no())), violations(broken(4, 0, num(1)))},
		{changes(insert(0, x1...), remove(0, x1...), insert(0, x1...)), nil},
		{changes(remove(0, text("at"), num(1), yes())), violations(broken(1, 1, num(6)))},
		{changes(insert(1, num(4), num(4), text("d"), text("at"), num(1)), remove(1, num(4), num(4), text("d"), text("at"), num(1))), violations(five[0])},
		{changes(insert(1, num(7), num(6), text("g"), text("at"), num(1))), nil},
	} {
		expectRecheck(t, yard(), faulty(), c.changes, c.want, api.OK)
	}
}

// P9.2: the tables of a key and of a row count. All three tables have the same keys.
func TestRecheckTables(t *testing.T) {
	s := api.Schema{Tables: []api.Table{
		{Name: "a", Columns: columns(ki), Key: 1},
		{Name: "b", Columns: columns(ki), Key: 1},
		{Name: "c", Columns: columns(ki, ki), Key: 1, References: references(to(0, 1), to(1, 1), to(1, 0)), Checks: checks(never())},
	}}
	st := state(nil, nil, list(row(num(1), num(1)), row(num(2), num(1)), row(num(3), num(2))))
	both := func(index int, n int64) []api.Change { return changes(insert(index, num(n)), remove(index, num(n))) }
	expectRecheck(t, s, st, both(0, 1), violations(broken(2, 0, num(1)), broken(2, 0, num(2))), api.OK)
	expectRecheck(t, s, st, both(0, 2), violations(broken(2, 0, num(3))), api.OK)
	expectRecheck(t, s, st, both(0, 3), nil, api.OK)
	expectRecheck(t, s, st, both(1, 1), violations(broken(2, 1, num(1)), broken(2, 2, num(1)), broken(2, 1, num(2))), api.OK)
	expectRecheck(t, s, st, both(1, 3), violations(broken(2, 2, num(3))), api.OK)
	expectRecheck(t, s, st, slices.Concat(both(1, 2), both(0, 2)), violations(broken(2, 2, num(2)), broken(2, 0, num(3)), broken(2, 1, num(3))), api.OK)
	expectRecheck(t, s, st, changes(insert(0, num(1)), insert(0, num(2)), insert(1, num(3))), nil, api.OK)
	lines := changes(change(2, row(num(2), num(1)), row(num(2), num(1))))
	expectRecheck(t, s, st, lines, violations(broken(2, 0, num(2)), broken(2, 1, num(2)), broken(2, 2, num(2)), failed(2, 0, num(2))), api.OK)
}

// P9.2: the error of table.Apply in ModeServer, in its order, and no violations with it.
func TestRecheckErrors(t *testing.T) {
	flaws := []struct {
		change api.Change
		errno  api.Errno
	}{
		{change(5, nil, row(num(1))), api.ErrRow},
		{change(-1, nil, row(num(1))), api.ErrRow},
		{change(1, nil, nil), api.ErrRow},
		{insert(1, num(9), num(9), hidden(), text("at"), num(1)), api.ErrRow},
		{insert(1, num(9), num(9), missing(), text("at"), num(1)), api.ErrRow},
		{insert(3, num(1)), api.ErrRow},
		{insert(4, num(9)), api.ErrRow},
		{change(4, row(num(1), no()), row(num(3), no())), api.ErrRow},
		{insert(4, num(1), yes()), api.ErrConflict},
		{remove(4, num(1), yes()), api.ErrConflict},
		{remove(4, num(3), yes()), api.ErrConflict},
		{change(4, row(num(7), no()), row(num(7), yes())), api.ErrConflict},
	}
	odd := insert(1, num(8), num(9), text(""), text("x"), num(1))
	for _, f := range flaws {
		expectRecheck(t, yard(), sound(), changes(f.change), nil, f.errno)
		expectRecheck(t, yard(), sound(), changes(odd, f.change), nil, f.errno)
		expectRecheck(t, yard(), sound(), changes(f.change, odd), nil, f.errno)
		for _, g := range flaws {
			expectRecheck(t, yard(), sound(), changes(f.change, odd, g.change), nil, f.errno)
		}
		for _, c := range faultyStates() {
			expectRecheck(t, yard(), c.st, changes(odd, f.change), nil, c.errno)
		}
		for errno, s := range faultySchemas() {
			expectRecheck(t, s, with(3), changes(f.change), nil, errno)
			expectRecheck(t, s, api.State{}, changes(f.change), nil, errno)
		}
	}
	for _, c := range faultyStates() {
		expectRecheck(t, yard(), c.st, nil, nil, c.errno)
		expectRecheck(t, yard(), c.st, changes(odd), nil, c.errno)
	}
	for errno, s := range faultySchemas() {
		expectRecheck(t, s, with(3), nil, nil, errno)
		expectRecheck(t, s, with(3), changes(odd), nil, errno)
	}
}

// P9.2: the changes go up to MaxRows, and there may be many of them.
func TestRecheckLimit(t *testing.T) {
	var many []api.Change
	for n := range 499 {
		many = append(many, insert(4, num(int64(1000-n)), no()))
	}
	more := insert(0, text("x"), num(1), no())
	full := slices.Concat(many, changes(remove(3, no()), more))
	expectRecheck(t, yard(), sound(), append(slices.Clone(many), more), nil, api.ErrLimit)
	expectRecheck(t, yard(), sound(), append(slices.Clone(full), insert(0, text("y"), num(1), no())), nil, api.ErrLimit)
	expectRecheck(t, yard(), sound(), many, nil, api.OK)
	want := violations(broken(2, 2, num(2), text("at"), num(1), no()), broken(4, 0, num(1)))
	for n := 502; n <= 1000; n++ {
		want = append(want, broken(4, 0, num(int64(n))))
	}
	expectRecheck(t, yard(), sound(), full, want, api.OK)
	var swings []api.Change
	for range 3000 {
		swings = append(swings, remove(3, no()), insert(3, no()), insert(0, text("y"), num(-1), no()), remove(0, text("y"), num(-1), no()))
	}
	expectRecheck(t, yard(), sound(), swings, nil, api.OK)
	expectRecheck(t, yard(), sound(), swings[:len(swings)-2], nil, api.OK)
	expectRecheck(t, yard(), sound(), swings[:len(swings)-3], violations(broken(2, 2, num(2), text("at"), num(1), no()), broken(4, 0, num(1))), api.OK)
	expectRecheck(t, yard(), sound(), swings[:len(swings)-1], violations(failed(0, 0, text("y"), num(-1))), api.OK)
}

// randomState returns a valid state of up to most rows a table.
func randomState(random *rand.Rand, s api.Schema, most int) api.State {
	st := state(make([][]api.Row, len(s.Tables))...)
	for i := range s.Tables {
		for range random.Intn(most + 1) {
			if r := randomRow(random, s, i); !isKey(s, st, i, keyOf(s, i, r)) {
				st.Tables[i] = append(st.Tables[i], r)
			}
		}
		slices.SortFunc(st.Tables[i], value.CompareRows)
	}
	return st
}

// randomChanges returns changes that can be applied to the state one after another.
func randomChanges(t *testing.T, random *rand.Rand, s api.Schema, st api.State) []api.Change {
	t.Helper()
	var all []api.Change
	for range random.Intn(7) {
		i := random.Intn(len(s.Tables))
		c := insert(i, randomRow(random, s, i)...)
		c.Old, _ = table.Get(s, st, i, keyOf(s, i, c.New))
		if len(c.Old) > 0 && random.Intn(2) == 0 {
			c.New = nil
		}
		after, errno := table.Apply(s, api.ModeServer, st, changes(c))
		if errno != api.OK {
			t.Fatalf("Apply of %v: %d", c, errno)
		}
		all, st = append(all, c), after
	}
	return all
}

// occurs tells whether the table and key occur in a change in which side picks a row.
func occurs(s api.Schema, all []api.Change, table int, key api.Row, side func(api.Change) api.Row) bool {
	return slices.ContainsFunc(all, func(c api.Change) bool {
		return c.Table == table && len(side(c)) > 0 && slices.Equal(keyOf(s, table, side(c)), key)
	})
}

func oldRow(c api.Change) api.Row { return c.Old }
func newRow(c api.Change) api.Row { return c.New }

// mayCause tells by the words of P9.2 whether the changes that led to the state may have caused its violation.
func mayCause(s api.Schema, after api.State, all []api.Change, v api.Violation) bool {
	if occurs(s, all, v.Table, v.Key, newRow) {
		return true
	}
	if v.Kind != api.ViolatesReference {
		return false
	}
	r, _ := table.Get(s, after, v.Table, v.Key)
	ref := s.Tables[v.Table].References[v.Index]
	return occurs(s, all, ref.Table, cellsOf(r, ref), oldRow) && !isKey(s, after, ref.Table, cellsOf(r, ref))
}

// P9.2 and P9.3: random states and changes, by the words of the promises.
func TestRecheckRandom(t *testing.T) {
	random := rand.New(rand.NewSource(2))
	sounds, left := 0, 0
	for range 10000 {
		s := randomSchema(random)
		st := randomState(random, s, pick(random, []int{1, 2, 5, 8}))
		if random.Intn(2) == 0 {
			st = repaired(s, st)
		}
		all := randomChanges(t, random, s, st)
		after, _ := table.Apply(s, api.ModeServer, st, all)
		every := violationsByWords(s, after)
		var want []api.Violation
		for _, v := range every {
			if mayCause(s, after, all, v) {
				want = append(want, v)
			}
		}
		expectRecheck(t, s, st, all, want, api.OK)
		if len(violationsByWords(s, st)) > 0 {
			left += len(every) - len(want)
			continue
		}
		expectRecheck(t, s, st, all, every, api.OK)
		if len(every) > 0 {
			sounds++
		}
	}
	if sounds < 1000 || left < 10000 {
		t.Errorf("only %d changes broke a sound state, and %d violations were left out", sounds, left)
	}
}

// repaired returns the state without the rows that have violations, again and again until there are none.
func repaired(s api.Schema, st api.State) api.State {
	for {
		faults := violationsByWords(s, st)
		if len(faults) == 0 {
			return st
		}
		for i := range st.Tables {
			st.Tables[i] = slices.DeleteFunc(st.Tables[i], func(r api.Row) bool {
				return slices.ContainsFunc(faults, func(v api.Violation) bool { return v.Table == i && slices.Equal(v.Key, keyOf(s, i, r)) })
			})
		}
	}
}

// P9.3: what Recheck returns are violations of the state after the changes.
func TestRecheckIsOfViolations(t *testing.T) {
	random := rand.New(rand.NewSource(3))
	for range 3000 {
		s := randomSchema(random)
		st := randomState(random, s, 6)
		all := randomChanges(t, random, s, st)
		after, _ := table.Apply(s, api.ModeServer, st, all)
		every, _ := integrity.Violations(s, after)
		some, errno := integrity.Recheck(s, st, all)
		if errno != api.OK {
			t.Fatalf("Recheck: %d", errno)
		}
		for _, v := range some {
			if !slices.ContainsFunc(every, func(w api.Violation) bool { return sameViolations(violations(v), violations(w)) }) {
				t.Fatalf("Recheck returns %v, which is not one of %v", v, every)
			}
		}
		before, _ := integrity.Violations(s, st)
		if len(before) == 0 && !sameViolations(some, every) {
			t.Fatalf("Recheck = %v, want %v", some, every)
		}
	}
}

// roomy returns the row with unused capacity.
func roomy(r api.Row) api.Row {
	return append(append(make(api.Row, 0, len(r)+2), r...), num(77), num(78))[:len(r)]
}

// roomyArguments returns a schema, a state and changes with unused capacity everywhere.
func roomyArguments() (api.Schema, api.State, []api.Change) {
	s, st := yard(), faulty()
	for i, rows := range st.Tables {
		more := make([]api.Row, 0, len(rows)+2)
		for _, r := range rows {
			more = append(more, roomy(r))
		}
		st.Tables[i] = append(more, row(num(79)), row(num(80)))[:len(rows)]
	}
	all := append(make([]api.Change, 0, 9),
		change(1, roomy(row(num(5), num(4), text(""), text("x"), num(1))), roomy(row(num(5), num(4), text("e"), text("x"), num(1)))),
		remove(3, roomy(row(yes()))...), insert(4, roomy(row(num(0), no()))...), insert(4, roomy(row(num(-1), no()))...), change(7, nil, nil))
	for i := range s.Tables {
		for j, ref := range s.Tables[i].References {
			s.Tables[i].References[j].Columns = append(append(make([]int, 0, 9), ref.Columns...), 5)[:len(ref.Columns)]
		}
	}
	return s, state(append(st.Tables, list(row(num(81))))[:5]...), all[:4]
}

// whole returns the arguments with their unused capacity.
func whole(s api.Schema, st api.State, all []api.Change) []any {
	var parts []any
	for _, t := range s.Tables {
		for _, ref := range t.References {
			parts = append(parts, ref.Table, slices.Clone(ref.Columns[:cap(ref.Columns)]))
		}
		parts = append(parts, t.Checks)
	}
	for _, rows := range st.Tables[:cap(st.Tables)] {
		for _, r := range rows[:cap(rows)] {
			parts = append(parts, slices.Clone(r[:cap(r)]))
		}
	}
	for _, c := range all[:cap(all)] {
		parts = append(parts, c.Table, slices.Clone(c.Old[:cap(c.Old)]), slices.Clone(c.New[:cap(c.New)]))
	}
	return parts
}

// spoil overwrites all cells of the state, the changes and the schema's references.
func spoil(s api.Schema, st api.State, all []api.Change) {
	for _, rows := range st.Tables {
		for _, r := range rows {
			spoilRow(r)
		}
	}
	for _, c := range all {
		spoilRow(c.Old)
		spoilRow(c.New)
	}
	for i := range s.Tables {
		s.Tables[i].Key = 1
		s.Tables[i].References = nil
	}
}

// spoilRow overwrites the cells of the row, and its unused capacity.
func spoilRow(r api.Row) {
	r = r[:cap(r)]
	for i := range r {
		r[i] = text("spoilt")
	}
}

// R2: the arguments stay as they are, unused capacity included, and nothing of them or of the results is kept.
func TestMemory(t *testing.T) {
	s, st, all := roomyArguments()
	run := func() ([]api.Violation, []api.Violation) {
		every, errno := integrity.Violations(s, st)
		some, errno2 := integrity.Recheck(s, st, all)
		if errno != api.OK || errno2 != api.OK {
			t.Fatalf("the errors are %d and %d", errno, errno2)
		}
		return every, some
	}
	first, second := run()
	if !reflect.DeepEqual(whole(s, st, all), whole(roomyArguments())) {
		t.Error("an argument has changed")
	}
	wantFirst := violationsByWords(yard(), faulty())
	wantSecond := violations(
		broken(1, 0, num(5)), broken(1, 1, num(5)), broken(2, 2, num(1), text("x"), num(6), yes()),
		broken(4, 0, num(-1)), broken(4, 0, num(0)))
	if !sameViolations(first, wantFirst) || !sameViolations(second, wantSecond) {
		t.Fatalf("the violations are %v and %v", first, second)
	}
	// Each key is spoilt, with its unused capacity, and shows in no other place.
	for i := range first {
		spoilRow(first[i].Key)
		first[i].Key = wantFirst[i].Key
		if !sameViolations(first, wantFirst) || !sameViolations(second, wantSecond) {
			t.Errorf("violation %d shares memory", i)
		}
	}
	for i := range second {
		spoilRow(second[i].Key)
		second[i].Key = wantSecond[i].Key
		if !sameViolations(first, wantFirst) || !sameViolations(second, wantSecond) {
			t.Errorf("violation %d of Recheck shares memory", i)
		}
	}
	if !reflect.DeepEqual(whole(s, st, all), whole(roomyArguments())) {
		t.Error("a result shares memory with an argument")
	}
	first, second = run()
	spoil(s, st, all)
	if !sameViolations(first, wantFirst) || !sameViolations(second, wantSecond) {
		t.Error("a result shares memory with an argument")
	}
	s, st, all = roomyArguments()
	if first, second = run(); !sameViolations(first, wantFirst) || !sameViolations(second, wantSecond) {
		t.Errorf("the violations are now %v and %v", first, second)
	}
}
