package table_test

import (
	"fmt"
	"math"
	"math/rand"
	"reflect"
	"slices"
	"testing"

	"partsync/api"
	"partsync/schema"
	"partsync/table"
	"partsync/value"
)

// keys returns how many columns the keys of the shop's tables have.
func keys() []int { return []int{1, 3, 1} }

func change(index int, old, new api.Row) api.Change {
	return api.Change{Table: index, Old: old, New: new}
}

// sameChanges tells whether the changes are equal: nil and empty rows are the same.
func sameChanges(a, b []api.Change) bool {
	return slices.EqualFunc(a, b, func(a, b api.Change) bool {
		return a.Table == b.Table && slices.Equal(a.Old, b.Old) && slices.Equal(a.New, b.New)
	})
}

// model is a state as a map from the names of its rows' tables and keys to the rows.
type model map[string]api.Row

// nameOf returns the name of the row's table and key.
func nameOf(index int, r api.Row) string { return fmt.Sprint(index, r[:keys()[index]]) }

// modelOf returns the model of the shop's state.
func modelOf(st api.State) model {
	m := model{}
	for i, rows := range st.Tables {
		for _, r := range rows {
			m[nameOf(i, r)] = r
		}
	}
	return m
}

// state returns the state that the model stands for.
func (m model) state() api.State {
	lists := make([][]api.Row, len(keys()))
	for name, r := range m {
		index := int(name[0] - '0')
		lists[index] = append(lists[index], r)
	}
	for i, rows := range lists {
		slices.SortFunc(rows, func(a, b api.Row) int { return value.CompareRows(a[:keys()[i]], b[:keys()[i]]) })
	}
	return state(lists...)
}

// validByWords tells whether a change of the shop is valid by the words of P8.3.
func validByWords(mode int, c api.Change) bool {
	if c.Table < 0 || c.Table > 2 || len(c.Old) == 0 && len(c.New) == 0 {
		return false
	}
	for _, r := range []api.Row{c.Old, c.New} {
		if len(r) > 0 && !schema.Fits(shop(), c.Table, r, mode) {
			return false
		}
	}
	return len(c.Old) == 0 || len(c.New) == 0 || nameOf(c.Table, c.Old) == nameOf(c.Table, c.New)
}

// eitherRow returns New, or Old if New is empty.
func eitherRow(c api.Change) api.Row {
	if len(c.New) == 0 {
		return c.Old
	}
	return c.New
}

// applyByWords is Apply for a valid state of the shop by the words of P8.3. It returns also the most rows that
// the state had.
func applyByWords(mode int, st api.State, changes []api.Change) (api.State, api.Errno, int) {
	m := modelOf(st)
	most := len(m)
	for _, c := range changes {
		if !validByWords(mode, c) {
			return api.State{}, api.ErrRow, most
		}
		name := nameOf(c.Table, eitherRow(c))
		if !slices.Equal(m[name], c.Old) {
			return api.State{}, api.ErrConflict, most
		}
		if len(c.New) > 0 {
			m[name] = c.New
		} else {
			delete(m, name)
		}
		most = max(most, len(m))
		if len(m) > api.MaxRows {
			return api.State{}, api.ErrLimit, most
		}
	}
	return m.state(), api.OK, most
}

// sortChanges sorts changes of the shop by table and key.
func sortChanges(changes []api.Change) {
	slices.SortFunc(changes, func(a, b api.Change) int {
		if a.Table != b.Table {
			return a.Table - b.Table
		}
		n := keys()[a.Table]
		return value.CompareRows(eitherRow(a)[:n], eitherRow(b)[:n])
	})
}

// differenceByWords is Difference for valid states of the shop by the words of P8.4.
func differenceByWords(a, b api.State) []api.Change {
	before, after := modelOf(a), modelOf(b)
	var changes []api.Change
	for name, r := range before {
		if !slices.Equal(r, after[name]) {
			changes = append(changes, change(int(name[0]-'0'), r, after[name]))
		}
	}
	for name, r := range after {
		if before[name] == nil {
			changes = append(changes, change(int(name[0]-'0'), nil, r))
		}
	}
	sortChanges(changes)
	return changes
}

// netByWords is Net for the shop by the words of P8.5.
func netByWords(mode int, changes []api.Change) ([]api.Change, api.Errno) {
	all := map[string]api.Change{}
	for _, c := range changes {
		if !validByWords(mode, c) {
			return nil, api.ErrRow
		}
		name := nameOf(c.Table, eitherRow(c))
		if earlier, found := all[name]; found {
			if !slices.Equal(earlier.New, c.Old) {
				return nil, api.ErrConflict
			}
			c.Old = earlier.Old
		}
		all[name] = c
	}
	var net []api.Change
	for _, c := range all {
		if !slices.Equal(c.Old, c.New) {
			net = append(net, c)
		}
	}
	sortChanges(net)
	return net, api.OK
}

// randomCell returns a cell of the kind, or one that the mode allows outside of the key.
func randomCell(random *rand.Rand, kind, mode int) api.Value {
	switch n := random.Intn(6); {
	case n == 0 && mode >= api.ModeAllowed:
		return hidden()
	case n == 1 && mode == api.ModeLocal:
		return missing()
	}
	return api.Value{Kind: kind, Int: int64(random.Intn(2))}
}

// randomRow returns a row that fits the shop's table in the mode.
func randomRow(random *rand.Rand, index, mode int) api.Row {
	name := text(string(rune('a' + random.Intn(4))))
	switch index {
	case 0:
		return row(name, randomCell(random, ki, mode))
	case 1:
		return row(num(int64(random.Intn(2))), name, num(int64(random.Intn(2))), randomCell(random, kb, mode))
	}
	return row(api.Value{Kind: kb, Int: int64(random.Intn(2))})
}

// randomState returns a state of the shop that is valid in the mode.
func randomState(random *rand.Rand, mode int) api.State {
	m := model{}
	for range random.Intn(10) {
		index := random.Intn(3)
		r := randomRow(random, index, mode)
		m[nameOf(index, r)] = r
	}
	return m.state()
}

// randomChange returns a change that can be made of the model, and makes it.
func randomChange(random *rand.Rand, m model, mode int) api.Change {
	index := random.Intn(3)
	r := randomRow(random, index, mode)
	name := nameOf(index, r)
	c := change(index, m[name], r)
	if m[name] != nil && random.Intn(2) == 0 {
		c.New = nil
		delete(m, name)
	} else {
		m[name] = r
	}
	return c
}

// randomChanges returns changes that can be made of the state, one after another.
func randomChanges(random *rand.Rand, st api.State, mode int) []api.Change {
	m := modelOf(st)
	changes := make([]api.Change, random.Intn(12))
	for i := range changes {
		changes[i] = randomChange(random, m, mode)
	}
	return changes
}

// spoilChange makes one of the changes another one, which may not be valid.
func spoilChange(random *rand.Rand, changes []api.Change, mode int) {
	if len(changes) == 0 {
		return
	}
	c := &changes[random.Intn(len(changes))]
	switch random.Intn(8) {
	case 0:
		c.Table = random.Intn(5) - 1
	case 1:
		c.Old = nil
	case 2:
		c.New = nil
	case 3:
		c.Old, c.New = c.New, c.Old
	case 4:
		c.New = randomRow(random, random.Intn(3), mode)
	case 5:
		c.Old = randomRow(random, random.Intn(3), 1+random.Intn(3))
	case 6:
		if len(c.New) > 0 {
			c.New = slices.Clone(c.New)
			c.New[random.Intn(len(c.New))] = randomCell(random, kb, 1+random.Intn(3))
		}
	case 7:
		*c = changes[random.Intn(len(changes))]
	}
}

// expectApply checks what Apply makes of the state.
func expectApply(t *testing.T, s api.Schema, mode int, st api.State, changes []api.Change, want api.State, errno api.Errno) {
	t.Helper()
	got, gotErrno := table.Apply(s, mode, st, changes)
	if !sameState(got, want) || gotErrno != errno {
		t.Errorf("Apply(mode %d, %s, %s) = %s, %d, want %s, %d", mode, short(st), short(changes), short(got), gotErrno, short(want), errno)
	}
}

// P8.3: insertions, deletions and replacements at each place of a list.
func TestApplyPlaces(t *testing.T) {
	s := one(1, ki, ki)
	a, b, c := row(num(1), num(0)), row(num(3), num(0)), row(num(5), num(0))
	st := state(list(a, b, c))
	for n, r := range []api.Row{a, b, c} {
		other := row(r[0], num(9))
		gone := slices.Delete(list(a, b, c), n, n+1)
		replaced := list(a, b, c)
		replaced[n] = other
		expectApply(t, s, 1, st, []api.Change{change(0, r, nil)}, state(gone), api.OK)
		expectApply(t, s, 1, st, []api.Change{change(0, r, other)}, state(replaced), api.OK)
		expectApply(t, s, 1, st, []api.Change{change(0, r, r)}, st, api.OK)
		expectApply(t, s, 1, st, []api.Change{change(0, r, nil), change(0, nil, other)}, state(replaced), api.OK)
		expectApply(t, s, 1, st, []api.Change{change(0, r, api.Row{}), change(0, api.Row{}, r)}, st, api.OK)
	}
	for n := range 4 {
		r := row(num(int64(2*n)), num(0))
		expectApply(t, s, 1, st, []api.Change{change(0, nil, r)}, state(slices.Insert(list(a, b, c), n, r)), api.OK)
		expectApply(t, s, 1, st, []api.Change{change(0, nil, r), change(0, r, nil)}, st, api.OK)
	}
	expectApply(t, s, 1, st, []api.Change{change(0, b, nil), change(0, a, nil), change(0, c, nil)}, state(nil), api.OK)
	expectApply(t, s, 1, state(nil), []api.Change{change(0, nil, c), change(0, nil, a), change(0, nil, b)}, st, api.OK)
	expectApply(t, s, 1, st, nil, st, api.OK)
	expectApply(t, s, 1, st, []api.Change{}, st, api.OK)
	expectApply(t, api.Schema{}, 1, api.State{}, nil, api.State{}, api.OK)
}

// The example of the chapter.
func TestExample(t *testing.T) {
	s := one(1, ki, kt)
	st := state(list(row(num(1), text("a"))))
	none := []api.Change{change(0, nil, row(num(2), text("b"))), change(0, row(num(2), text("b")), nil)}
	expectApply(t, s, 1, st, none, st, api.OK)
	if net, errno := table.Net(s, 1, none); len(net) != 0 || errno != api.OK {
		t.Errorf("Net = %v, %d", net, errno)
	}
	expectApply(t, s, 1, st, []api.Change{change(0, nil, row(num(1), text("c")))}, api.State{}, api.ErrConflict)
}

// flawed returns changes that are not valid in ModeLocal, and so in no mode.
func flawed() []api.Change {
	ann, sale := row(text("ann"), num(30)), row(num(1), text("ann"), num(5), no())
	return []api.Change{
		// No such table.
		change(3, nil, ann), change(-1, nil, ann), change(-1, ann, nil), change(3, ann, ann), change(math.MaxInt, ann, nil), change(math.MinInt, nil, ann),
		change(3, nil, nil), change(-1, nil, nil),
		// Neither Old nor New.
		change(0, nil, nil), change(1, api.Row{}, nil), change(2, nil, api.Row{}),
		// A row of another table, or of another length.
		change(1, nil, ann), change(1, ann, nil), change(0, nil, sale), change(0, nil, ann[:1]), change(0, ann[:1], nil),
		change(0, ann, ann[:1]), change(0, ann[:1], ann), change(0, ann, row(text("ann"), num(30), num(1))), change(1, sale[:3], sale), change(2, nil, row(no(), no())),
		// A cell that does not fit.
		change(0, nil, row(num(1), num(30))), change(0, row(text("ann"), text("30")), nil), change(0, ann, row(text("ann"), no())), change(0, row(text("ann"), no()), ann),
		change(0, nil, row(hidden(), num(30))), change(0, nil, row(missing(), num(30))), change(1, nil, row(num(1), hidden(), num(5), no())),
		change(0, ann, row(text("ann"), api.Value{Kind: api.KindHidden, Int: 1})), change(0, ann, row(text("ann"), api.Value{})),
		// Two keys.
		change(0, ann, row(text("bob"), num(30))), change(1, sale, row(num(1), text("ann"), num(6), no())), change(1, sale, row(num(2), text("ann"), num(5), no())),
		change(1, sale, row(num(1), text("bob"), num(5), no())), change(2, row(no()), row(yes())),
	}
}

// P8.3: changes that are not valid, alone, before and behind others.
func TestApplyErrRow(t *testing.T) {
	st := open()
	good := change(0, row(text("ann"), num(30)), nil)
	for _, c := range flawed() {
		for mode := 1; mode <= 3; mode++ {
			for _, changes := range [][]api.Change{{c}, {good, c}, {c, good}, {c, c}, {c, good, good}} {
				expectApply(t, shop(), mode, st, changes, api.State{}, api.ErrRow)
			}
			expectApply(t, shop(), mode, st, []api.Change{good, good, c}, api.State{}, api.ErrConflict)
		}
	}
}

// P8.3: which rows a change may have depends on the mode.
func TestApplyModes(t *testing.T) {
	ann, masked, absent := row(text("ann"), num(30)), row(text("ann"), hidden()), row(text("ann"), missing())
	for _, c := range []struct {
		held    api.Row
		changes []api.Change
		want    api.Row
		least   int
	}{
		{nil, []api.Change{change(0, nil, ann)}, ann, 1}, {nil, []api.Change{change(0, nil, masked)}, masked, 2}, {nil, []api.Change{change(0, nil, absent)}, absent, 3},
		{ann, []api.Change{change(0, ann, masked)}, masked, 2}, {ann, []api.Change{change(0, ann, absent)}, absent, 3},
		{nil, []api.Change{change(0, nil, masked), change(0, masked, ann)}, ann, 2},
		{nil, []api.Change{change(0, nil, absent), change(0, absent, masked), change(0, masked, ann)}, ann, 3},
		{nil, []api.Change{change(0, nil, masked), change(0, masked, nil)}, nil, 2},
	} {
		want := state(nil, nil, nil)
		st := state(nil, nil, nil)
		if c.want != nil {
			want.Tables[0] = list(c.want)
		}
		if c.held != nil {
			st.Tables[0] = list(c.held)
		}
		for mode := 1; mode <= 3; mode++ {
			if mode < c.least {
				expectApply(t, shop(), mode, st, c.changes, api.State{}, api.ErrRow)
			} else {
				expectApply(t, shop(), mode, st, c.changes, want, api.OK)
			}
		}
	}
	st := state(list(masked), nil, nil)
	expectApply(t, shop(), 2, st, []api.Change{change(0, ann, nil)}, api.State{}, api.ErrConflict)
	expectApply(t, shop(), 3, st, []api.Change{change(0, absent, nil)}, api.State{}, api.ErrConflict)
	expectApply(t, shop(), 2, st, []api.Change{change(0, masked, ann)}, state(list(ann), nil, nil), api.OK)
}

// P8.3: Old is not the row that is there at this point, or there is none, or there is one though Old is empty.
func TestApplyErrConflict(t *testing.T) {
	ann, older, bob, cat := row(text("ann"), num(30)), row(text("ann"), num(31)), row(text("bob"), num(40)), row(text("cat"), num(1))
	for _, changes := range [][]api.Change{
		{change(0, nil, ann)}, {change(0, nil, older)}, {change(0, older, nil)}, {change(0, older, ann)}, {change(0, older, older)},
		{change(0, cat, nil)}, {change(0, cat, cat)}, {change(0, cat, row(text("cat"), num(2)))},
		{change(0, ann, nil), change(0, ann, nil)}, {change(0, ann, older), change(0, ann, nil)}, {change(0, ann, older), change(0, nil, ann)},
		{change(0, nil, cat), change(0, nil, cat)}, {change(0, ann, nil), change(0, bob, nil), change(0, ann, older)},
		{change(0, ann, nil), change(0, nil, older), change(0, ann, nil)},
		{change(2, nil, row(no()))}, {change(2, row(no()), nil), change(2, row(yes()), nil), change(2, row(no()), row(no()))},
		{change(1, row(num(1), text("ann"), num(5), yes()), nil)}, {change(1, row(num(1), text("ann"), num(4), no()), nil)},
	} {
		for mode := 1; mode <= 3; mode++ {
			expectApply(t, shop(), mode, open(), changes, api.State{}, api.ErrConflict)
			first := append([]api.Change{change(1, nil, row(num(9), text("x"), num(9), no()))}, changes...)
			expectApply(t, shop(), mode, open(), first, api.State{}, api.ErrConflict)
			expectApply(t, shop(), mode, open(), append(slices.Clone(changes), change(3, nil, ann)), api.State{}, api.ErrConflict)
			expectApply(t, shop(), mode, open(), append([]api.Change{change(3, nil, ann)}, changes...), api.State{}, api.ErrRow)
		}
	}
}

// P8.3 and P8.8: the first change after which there would be too many rows, also if later ones delete some.
func TestApplyErrLimit(t *testing.T) {
	s := one(1, ki, ki)
	s.Tables = append(s.Tables, api.Table{Name: "u", Columns: columns(ki, ki), Key: 1})
	full := state(numbers(0, 300), numbers(0, 212))
	in := func(index, n int) api.Change { return change(index, nil, row(num(int64(n)), num(0))) }
	out := func(index, n int) api.Change { return change(index, row(num(int64(n)), num(0)), nil) }
	bad := change(0, nil, nil)
	for _, c := range []struct {
		changes []api.Change
		want    api.Errno
	}{
		{[]api.Change{in(0, 400)}, api.ErrLimit}, {[]api.Change{in(1, -1)}, api.ErrLimit}, {[]api.Change{in(0, 400), out(0, 1)}, api.ErrLimit},
		{[]api.Change{in(0, 400), out(0, 400)}, api.ErrLimit}, {[]api.Change{in(1, 400), out(0, 1), out(1, 2)}, api.ErrLimit},
		{[]api.Change{out(0, 1), in(0, 400), in(1, 400)}, api.ErrLimit}, {[]api.Change{out(0, 1), in(1, 400), in(0, 400), out(0, 2)}, api.ErrLimit},
		// A replacement needs no room.
		{[]api.Change{change(0, row(num(1), num(0)), row(num(1), num(5)))}, api.OK}, {[]api.Change{change(0, row(num(1), num(0)), row(num(1), num(5))), in(0, 400)}, api.ErrLimit},
		{[]api.Change{out(0, 1), in(0, 400)}, api.OK}, {[]api.Change{out(0, 1), in(1, 400)}, api.OK}, {[]api.Change{out(0, 1), out(1, 1), in(1, 400), in(0, 1)}, api.OK},
		// Of the errors of one change the first one, and of several changes the first one.
		{[]api.Change{in(0, 1)}, api.ErrConflict}, {[]api.Change{out(0, 400)}, api.ErrConflict}, {[]api.Change{bad}, api.ErrRow},
		{[]api.Change{in(0, 400), bad}, api.ErrLimit}, {[]api.Change{in(0, 400), in(0, 1)}, api.ErrLimit}, {[]api.Change{bad, in(0, 400)}, api.ErrRow},
		{[]api.Change{in(0, 1), in(0, 400)}, api.ErrConflict}, {[]api.Change{in(0, 1), bad}, api.ErrConflict}, {[]api.Change{bad, in(0, 1)}, api.ErrRow},
		{[]api.Change{change(0, row(num(400), num(1)), row(num(400), num(0)))}, api.ErrConflict},
	} {
		got, errno := table.Apply(s, 1, full, c.changes)
		if errno != c.want || errno != api.OK && got.Tables != nil || errno == api.OK && table.Count(got) != 512 {
			t.Errorf("Apply(%s) = %s, %d, want %d", short(c.changes), short(got), errno, c.want)
		}
	}
	almost := state(full.Tables[0], full.Tables[1][1:])
	expectApply(t, s, 1, almost, []api.Change{in(1, 0)}, full, api.OK)
	expectApply(t, s, 1, almost, []api.Change{in(1, 0), in(1, 300)}, api.State{}, api.ErrLimit)
}

// P8.3: the errors of Check come first.
func TestApplyCheck(t *testing.T) {
	bad := state(list(row(text("b"), num(1)), row(text("a"), num(1))), nil, nil)
	for _, changes := range [][]api.Change{nil, {change(3, nil, nil)}, {change(2, nil, row(no()))}, {change(2, row(no()), nil)}} {
		for mode := range 5 {
			for _, st := range []api.State{bad, state(nil), state(make([]api.Row, 513))} {
				expectApply(t, shop(), mode, st, changes, api.State{}, table.Check(shop(), mode, st))
			}
			for errno, s := range faultySchemas() {
				expectApply(t, s, mode, open(), changes, api.State{}, errno)
			}
		}
		expectApply(t, shop(), 0, open(), changes, api.State{}, api.ErrArg)
		expectApply(t, shop(), 4, open(), changes, api.State{}, api.ErrArg)
	}
	masked := state(list(row(text("a"), hidden())), nil, nil)
	expectApply(t, shop(), 1, masked, nil, api.State{}, api.ErrState)
	expectApply(t, shop(), 2, masked, nil, masked, api.OK)
}

// P8.3: random states and changes, also ones that have errors, against the words of the promise.
func TestApplyRandom(t *testing.T) {
	random := rand.New(rand.NewSource(83))
	counts := map[api.Errno]int{}
	for range 20000 {
		mode := 1 + random.Intn(3)
		st := randomState(random, mode)
		changes := randomChanges(random, st, mode)
		if random.Intn(2) == 0 {
			spoilChange(random, changes, mode)
		}
		want, errno, _ := applyByWords(mode, st, changes)
		expectApply(t, shop(), mode, st, changes, want, errno)
		counts[errno]++
	}
	if counts[api.OK] < 2000 || counts[api.ErrRow] < 1000 || counts[api.ErrConflict] < 1000 {
		t.Errorf("the changes are no good ones: %v", counts)
	}
}

// crowd adds rows of users to a state of the shop until it has n of them.
func crowd(st api.State, n int) api.State {
	m := modelOf(st)
	for i := 0; len(m) < n; i++ {
		r := row(text(fmt.Sprint("user ", i)), num(0))
		m[nameOf(0, r)] = r
	}
	return m.state()
}

// P8.3, P8.7 and P8.8: the same for states with nearly MaxRows rows.
func TestApplyCrowded(t *testing.T) {
	random := rand.New(rand.NewSource(833))
	counts := map[api.Errno]int{}
	for range 600 {
		mode := 1 + random.Intn(3)
		st := crowd(randomState(random, mode), 508+random.Intn(5))
		changes := randomChanges(random, st, mode)
		want, errno, most := applyByWords(mode, st, changes)
		expectApply(t, shop(), mode, st, changes, want, errno)
		counts[errno]++
		if errno == api.OK && most > api.MaxRows || errno == api.ErrLimit && most <= api.MaxRows {
			t.Fatalf("the model is wrong: %d rows, error %d", most, errno)
		}
		if errno == api.OK {
			net, _ := table.Net(shop(), mode, changes)
			diff, _ := table.Difference(shop(), mode, st, want)
			if !sameChanges(net, diff) {
				t.Errorf("Net of %s is %s, and the difference of both states %s", short(changes), short(net), short(diff))
			}
		}
	}
	if counts[api.OK] < 100 || counts[api.ErrLimit] < 100 {
		t.Errorf("the states are no good ones: %v", counts)
	}
}

// expectDifference checks what Difference returns.
func expectDifference(t *testing.T, mode int, a, b api.State, want []api.Change, errno api.Errno) {
	t.Helper()
	got, gotErrno := table.Difference(shop(), mode, a, b)
	if !sameChanges(got, want) || gotErrno != errno {
		t.Errorf("Difference(mode %d, %s, %s) = %s, %d, want %s, %d", mode, short(a), short(b), short(got), gotErrno, short(want), errno)
	}
}

// P8.4: rows that only one of the states has, and rows with other cells, in the order of tables and keys.
func TestDifference(t *testing.T) {
	users := func(cells ...int64) api.State {
		st := state(nil, nil, nil)
		for i, n := range cells {
			if n > 0 {
				st.Tables[0] = append(st.Tables[0], row(text(string(rune('a'+i))), num(n)))
			}
		}
		return st
	}
	user := func(name string, n int64) api.Row { return row(text(name), num(n)) }
	for _, c := range []struct {
		a, b api.State
		want []api.Change
	}{
		{users(), users(), nil}, {users(1, 2, 3), users(1, 2, 3), nil}, {open(), open(), nil},
		{users(), users(1), []api.Change{change(0, nil, user("a", 1))}}, {users(1), users(), []api.Change{change(0, user("a", 1), nil)}},
		{users(1), users(2), []api.Change{change(0, user("a", 1), user("a", 2))}},
		{users(1, 0, 3), users(1, 2, 3), []api.Change{change(0, nil, user("b", 2))}}, {users(1, 2, 3), users(1, 0, 3), []api.Change{change(0, user("b", 2), nil)}},
		{users(1, 2), users(1, 2, 3), []api.Change{change(0, nil, user("c", 3))}}, {users(0, 2, 3), users(1, 2), []api.Change{change(0, nil, user("a", 1)), change(0, user("c", 3), nil)}},
		{users(1, 0, 3), users(0, 2, 4), []api.Change{change(0, user("a", 1), nil), change(0, nil, user("b", 2)), change(0, user("c", 3), user("c", 4))}},
		{users(0, 2), users(1), []api.Change{change(0, nil, user("a", 1)), change(0, user("b", 2), nil)}},
		{users(1), users(0, 2), []api.Change{change(0, user("a", 1), nil), change(0, nil, user("b", 2))}},
		{
			state(nil, list(row(num(1), text("b"), num(1), no())), list(row(no()))), state(list(user("z", 1)), list(row(num(1), text("a"), num(2), no()), row(num(1), text("b"), num(1), yes())), list(row(yes()))),
			[]api.Change{
				change(0, nil, user("z", 1)), change(1, nil, row(num(1), text("a"), num(2), no())), change(1, row(num(1), text("b"), num(1), no()), row(num(1), text("b"), num(1), yes())),
				change(2, row(no()), nil), change(2, nil, row(yes())),
			},
		},
	} {
		for mode := 1; mode <= 3; mode++ {
			expectDifference(t, mode, c.a, c.b, c.want, api.OK)
		}
	}
	masked, absent := row(text("a"), hidden()), row(text("a"), missing())
	expectDifference(t, 3, state(list(masked), nil, nil), state(list(absent), nil, nil), []api.Change{change(0, masked, absent)}, api.OK)
	expectDifference(t, 2, state(list(masked), nil, nil), users(1), []api.Change{change(0, masked, user("a", 1))}, api.OK)
}

// P8.4: the error of a, then that of b.
func TestDifferenceErrors(t *testing.T) {
	masked := state(list(row(text("a"), hidden())), nil, nil)
	states := []api.State{open(), state(nil), state(make([]api.Row, 513), nil, nil), masked}
	for mode := -1; mode <= 5; mode++ {
		for _, a := range states {
			for _, b := range states {
				want := table.Check(shop(), mode, a)
				if want == api.OK {
					want = table.Check(shop(), mode, b)
				}
				if want != api.OK {
					expectDifference(t, mode, a, b, nil, want)
				}
				for errno, s := range faultySchemas() {
					if got, gotErrno := table.Difference(s, mode, a, b); got != nil || gotErrno != errno {
						t.Errorf("Difference = %s, %d, want %d", short(got), gotErrno, errno)
					}
				}
			}
		}
	}
	expectDifference(t, 1, open(), masked, nil, api.ErrState)
	expectDifference(t, 1, masked, open(), nil, api.ErrState)
	expectDifference(t, 1, masked, states[2], nil, api.ErrState)
	expectDifference(t, 1, states[2], masked, nil, api.ErrLimit)
}

// P8.4 and P8.7: random states, against the words of the promise; applied to a, the difference gives b.
func TestDifferenceRandom(t *testing.T) {
	random := rand.New(rand.NewSource(84))
	for range 10000 {
		mode := 1 + random.Intn(3)
		a, b := randomState(random, mode), randomState(random, mode)
		want := differenceByWords(a, b)
		expectDifference(t, mode, a, b, want, api.OK)
		expectApply(t, shop(), mode, a, want, b, api.OK)
		back := differenceByWords(b, a)
		slices.Reverse(back)
		if got := table.Invert(want); !sameChanges(got, back) {
			t.Errorf("Invert = %s, want %s", short(got), short(back))
		}
	}
}

// P8.5: any changes are inverted, also those that are not valid.
func TestInvert(t *testing.T) {
	odd := row(api.Value{Kind: -1, Int: 7, Text: "x"})
	changes := append(flawed(), change(9, odd, nil), change(math.MinInt, odd, row(num(1))), change(0, nil, row(text("ann"), num(30))))
	got := table.Invert(changes)
	if len(got) != len(changes) {
		t.Fatalf("Invert returns %d changes", len(got))
	}
	for i, c := range changes {
		if !sameChanges(got[len(got)-1-i:][:1], []api.Change{change(c.Table, c.New, c.Old)}) {
			t.Errorf("Invert of %v is %v", c, got[len(got)-1-i])
		}
	}
	if !sameChanges(table.Invert(got), changes) {
		t.Error("Invert of Invert is another list")
	}
	if len(table.Invert(nil)) != 0 || len(table.Invert([]api.Change{})) != 0 {
		t.Error("Invert of nothing is something")
	}
}

// expectNet checks what Net returns.
func expectNet(t *testing.T, mode int, changes, want []api.Change, errno api.Errno) {
	t.Helper()
	got, gotErrno := table.Net(shop(), mode, changes)
	if !sameChanges(got, want) || gotErrno != errno {
		t.Errorf("Net(mode %d, %s) = %s, %d, want %s, %d", mode, short(changes), short(got), gotErrno, short(want), errno)
	}
}

// P8.5: the changes of a key become one, and those of all keys are in order.
func TestNet(t *testing.T) {
	a, a2, a3, b := row(text("a"), num(1)), row(text("a"), num(2)), row(text("a"), num(3)), row(text("b"), num(1))
	sale, paid := row(num(1), text("a"), num(1), no()), row(num(1), text("a"), num(1), yes())
	for _, c := range []struct {
		changes, want []api.Change
	}{
		{nil, nil}, {[]api.Change{}, nil},
		{[]api.Change{change(0, nil, a)}, []api.Change{change(0, nil, a)}}, {[]api.Change{change(0, a, nil)}, []api.Change{change(0, a, nil)}},
		{[]api.Change{change(0, a, a2)}, []api.Change{change(0, a, a2)}}, {[]api.Change{change(0, a, a)}, nil},
		{[]api.Change{change(0, nil, a), change(0, a, a2)}, []api.Change{change(0, nil, a2)}}, {[]api.Change{change(0, nil, a), change(0, a, nil)}, nil},
		{[]api.Change{change(0, a, a2), change(0, a2, nil)}, []api.Change{change(0, a, nil)}}, {[]api.Change{change(0, a, nil), change(0, nil, a)}, nil},
		{[]api.Change{change(0, a, nil), change(0, nil, a2)}, []api.Change{change(0, a, a2)}}, {[]api.Change{change(0, a, a2), change(0, a2, a)}, nil},
		{[]api.Change{change(0, a, a2), change(0, a2, a3)}, []api.Change{change(0, a, a3)}},
		{[]api.Change{change(0, a, a2), change(0, a2, nil), change(0, nil, a3), change(0, a3, a)}, nil},
		{[]api.Change{change(0, nil, a), change(0, a, nil), change(0, nil, a2)}, []api.Change{change(0, nil, a2)}},
		{[]api.Change{change(0, a, a), change(0, a, a2), change(0, a2, a2)}, []api.Change{change(0, a, a2)}},
		{[]api.Change{change(0, b, nil), change(0, nil, a)}, []api.Change{change(0, nil, a), change(0, b, nil)}},
		{[]api.Change{change(0, a, a2), change(0, b, nil), change(0, a2, a3), change(0, nil, b), change(0, a3, nil)}, []api.Change{change(0, a, nil)}},
		{[]api.Change{change(1, nil, sale), change(0, nil, a), change(1, sale, paid), change(0, a, a2)}, []api.Change{change(0, nil, a2), change(1, nil, paid)}},
		{[]api.Change{change(2, nil, row(yes())), change(2, nil, row(no())), change(0, b, nil), change(1, paid, sale)}, []api.Change{change(0, b, nil), change(1, paid, sale), change(2, nil, row(no())), change(2, nil, row(yes()))}},
	} {
		for mode := 1; mode <= 3; mode++ {
			expectNet(t, mode, c.changes, c.want, api.OK)
		}
	}
	two := one(1, ki, ki)
	two.Tables = append(two.Tables, api.Table{Name: "u", Columns: columns(ki, ki), Key: 1})
	same := []api.Change{change(1, nil, row(num(1), num(1))), change(0, row(num(1), num(2)), nil)}
	if net, errno := table.Net(two, 1, same); !sameChanges(net, []api.Change{same[1], same[0]}) || errno != api.OK {
		t.Errorf("Net of changes of two tables = %v, %d", net, errno)
	}
}

// P8.5: the errors of Net, and which of them comes first.
func TestNetErrors(t *testing.T) {
	a, a2, b := row(text("a"), num(1)), row(text("a"), num(2)), row(text("b"), num(1))
	good := change(0, nil, b)
	conflicts := [][]api.Change{
		{change(0, nil, a), change(0, nil, a)}, {change(0, nil, a), change(0, a2, nil)}, {change(0, a, a2), change(0, a, a2)}, {change(0, a, nil), change(0, a, nil)},
		{change(0, a, nil), change(0, a, a2)}, {change(0, nil, a), change(0, nil, a2)}, {change(0, nil, a), change(0, a, nil), change(0, a, nil)},
		{change(0, nil, a), change(0, a, a2), change(0, a, nil)}, {change(0, a, a), change(0, a2, a2)},
	}
	for mode := 1; mode <= 3; mode++ {
		for _, c := range flawed() {
			expectNet(t, mode, []api.Change{c}, nil, api.ErrRow)
			expectNet(t, mode, []api.Change{good, c}, nil, api.ErrRow)
			expectNet(t, mode, []api.Change{c, good, good}, nil, api.ErrRow)
			for _, changes := range conflicts {
				expectNet(t, mode, append([]api.Change{c}, changes...), nil, api.ErrRow)
				expectNet(t, mode, append(slices.Clone(changes), c), nil, api.ErrConflict)
				expectNet(t, mode, slices.Insert(slices.Clone(changes), len(changes)-1, c), nil, api.ErrRow)
			}
		}
		for _, changes := range conflicts {
			expectNet(t, mode, changes, nil, api.ErrConflict)
			expectNet(t, mode, append([]api.Change{good}, changes...), nil, api.ErrConflict)
			expectNet(t, mode, append(slices.Clone(changes), good), nil, api.ErrConflict)
			expectNet(t, mode, slices.Insert(slices.Clone(changes), 1, good), nil, api.ErrConflict)
		}
	}
	expectNet(t, 1, []api.Change{change(0, nil, row(text("a"), hidden()))}, nil, api.ErrRow)
	expectNet(t, 2, []api.Change{change(0, nil, row(text("a"), missing()))}, nil, api.ErrRow)
	expectNet(t, 3, []api.Change{change(0, nil, row(text("a"), missing()))}, []api.Change{change(0, nil, row(text("a"), missing()))}, api.OK)
	for _, mode := range []int{math.MinInt, -1, 0, 4, math.MaxInt} {
		expectNet(t, mode, nil, nil, api.ErrArg)
		expectNet(t, mode, flawed(), nil, api.ErrArg)
		expectNet(t, mode, conflicts[0], nil, api.ErrArg)
	}
	for errno, s := range faultySchemas() {
		for mode := range 5 {
			for _, changes := range [][]api.Change{nil, flawed(), conflicts[0]} {
				if got, gotErrno := table.Net(s, mode, changes); got != nil || gotErrno != errno {
					t.Errorf("Net = %s, %d, want %d", short(got), gotErrno, errno)
				}
			}
		}
	}
}

// P8.5: more rows than a state may have are no error.
func TestNetLarge(t *testing.T) {
	s := one(1, ki, ki)
	var changes []api.Change
	for _, r := range numbers(0, 20000) {
		changes = append(changes, change(0, nil, r))
	}
	mixed := slices.Clone(changes)
	rand.New(rand.NewSource(85)).Shuffle(len(mixed), func(i, j int) { mixed[i], mixed[j] = mixed[j], mixed[i] })
	if net, errno := table.Net(s, 1, mixed); !sameChanges(net, changes) || errno != api.OK {
		t.Errorf("Net = %s, %d", short(net), errno)
	}
	all := append(mixed, table.Invert(changes)...)
	if net, errno := table.Net(s, 1, all); len(net) != 0 || errno != api.OK {
		t.Errorf("Net of changes and of those that lead back = %s, %d", short(net), errno)
	}
	if _, errno := table.Net(s, 1, append(all, all[20000])); errno != api.ErrConflict {
		t.Errorf("a row that is deleted twice: %d", errno)
	}
}

// P8.5: random changes, also of no state at all, against the words of the promise.
func TestNetRandom(t *testing.T) {
	random := rand.New(rand.NewSource(855))
	counts := map[api.Errno]int{}
	for range 20000 {
		mode := 1 + random.Intn(3)
		changes := randomChanges(random, randomState(random, mode), mode)
		for range random.Intn(3) {
			spoilChange(random, changes, mode)
		}
		want, errno := netByWords(mode, changes)
		expectNet(t, mode, changes, want, errno)
		counts[errno]++
	}
	if counts[api.OK] < 2000 || counts[api.ErrRow] < 1000 || counts[api.ErrConflict] < 1000 {
		t.Errorf("the changes are no good ones: %v", counts)
	}
}

// P8.7: changes, their inverse, their net, and the difference of the states before and after.
func TestConsequences(t *testing.T) {
	random := rand.New(rand.NewSource(87))
	for range 10000 {
		mode := 1 + random.Intn(3)
		st := randomState(random, mode)
		changes := randomChanges(random, st, mode)
		after, errno := table.Apply(shop(), mode, st, changes)
		if errno != api.OK {
			t.Fatalf("Apply(%s, %s): %d", short(st), short(changes), errno)
		}
		inverse := table.Invert(changes)
		expectApply(t, shop(), mode, after, inverse, st, api.OK)
		expectApply(t, shop(), mode, st, append(slices.Clone(changes), inverse...), st, api.OK)
		net, errno := table.Net(shop(), mode, changes)
		if errno != api.OK {
			t.Errorf("Net(%s): %d", short(changes), errno)
		}
		expectApply(t, shop(), mode, st, net, after, api.OK)
		expectDifference(t, mode, st, after, net, api.OK)
		expectNet(t, mode, net, net, api.OK)
		expectNet(t, mode, append(slices.Clone(changes), inverse...), nil, api.OK)
	}
}

// spoilChanges overwrites all rows of the changes, and their unused capacity.
func spoilChanges(changes []api.Change) {
	for _, c := range changes {
		spoilRow(c.Old)
		spoilRow(c.New)
	}
	changes = changes[:cap(changes)]
	for i := range changes {
		changes[i] = change(9, nil, nil)
	}
}

// roomyChanges returns changes of the open state with unused capacity everywhere.
func roomyChanges() []api.Change {
	r := func(cells ...api.Value) api.Row {
		return append(append(make(api.Row, 0, 9), cells...), num(7))[:len(cells)]
	}
	return append(make([]api.Change, 0, 9),
		change(0, r(text("ann"), num(30)), r(text("ann"), num(31))), change(0, r(text("bob"), num(40)), r()[:0]), change(2, r(yes()), nil),
		change(1, nil, r(num(9), text("z"), num(1), no())), change(0, nil, r(text("aaa"), num(1))), change(1, r(num(2), text("ann"), num(1), no()), nil),
		change(0, r(text("ann"), num(31)), r(text("ann"), num(32))), change(0, r(), r(text("bob"), num(41))), change(2, r(no()), r(no())),
		change(5, nil, nil),
	)[:9]
}

// wholeChanges returns the changes with their unused capacity.
func wholeChanges(changes []api.Change) []api.Change {
	all := slices.Clone(changes[:cap(changes)])
	for i, c := range all {
		all[i].Old, all[i].New = c.Old[:cap(c.Old)], c.New[:cap(c.New)]
	}
	return all
}

// results are what the functions of changes return together.
type results struct {
	after                        api.State
	inverse, net, diff, backward []api.Change
}

// copyOf returns the results in memory of their own.
func (r results) copyOf() results {
	changes := func(all []api.Change) []api.Change {
		all = slices.Clone(all)
		for i, c := range all {
			all[i].Old, all[i].New = slices.Clone(c.Old), slices.Clone(c.New)
		}
		return all
	}
	lists := slices.Clone(r.after.Tables)
	for i, rows := range lists {
		lists[i] = slices.Clone(rows)
		for j, row := range rows {
			lists[i][j] = slices.Clone(row)
		}
	}
	return results{state(lists...), changes(r.inverse), changes(r.net), changes(r.diff), changes(r.backward)}
}

// same tells whether both results are equal.
func (r results) same(o results) bool {
	return sameState(r.after, o.after) && sameChanges(r.inverse, o.inverse) && sameChanges(r.net, o.net) && sameChanges(r.diff, o.diff) && sameChanges(r.backward, o.backward)
}

// runChanges calls the functions of changes.
func runChanges(t *testing.T, s api.Schema, st api.State, changes []api.Change) results {
	t.Helper()
	var r results
	var errnos [4]api.Errno
	r.after, errnos[0] = table.Apply(s, 1, st, changes)
	r.inverse = table.Invert(changes)
	r.net, errnos[1] = table.Net(s, 1, changes)
	r.diff, errnos[2] = table.Difference(s, 1, st, r.after)
	r.backward, errnos[3] = table.Difference(s, 1, r.after, st)
	if errnos != [4]api.Errno{} {
		t.Errorf("the errors are %v", errnos)
	}
	return r
}

// R2: the arguments stay as they are, unused capacity included, and nothing of them is kept.
func TestChangeArgumentsStay(t *testing.T) {
	s, st, changes := shop(), roomy(open()), roomyChanges()
	first := runChanges(t, s, st, changes)
	if !reflect.DeepEqual(s, shop()) || !reflect.DeepEqual(whole(st), whole(roomy(open()))) || !reflect.DeepEqual(wholeChanges(changes), wholeChanges(roomyChanges())) {
		t.Error("an argument has changed")
	}
	// Lists that are only made shorter or longer at their end share most with the argument's.
	last := []api.Change{change(2, row(yes()), nil), change(0, nil, row(text("cat"), num(1))), change(2, nil, row(yes()))}
	expectApply(t, s, 1, st, last[:1], state(open().Tables[0], open().Tables[1], list(row(no()))), api.OK)
	expectApply(t, s, 1, st, last, state(append(open().Tables[0], row(text("cat"), num(1))), open().Tables[1], open().Tables[2]), api.OK)
	if !reflect.DeepEqual(whole(st), whole(roomy(open()))) {
		t.Error("an argument has changed")
	}
	want := first.copyOf()
	spoil(st)
	spoilChanges(changes)
	s.Tables[0].Key = 2
	if !first.same(want) {
		t.Error("a result shares memory with an argument")
	}
	if again := runChanges(t, shop(), roomy(open()), roomyChanges()); !again.same(want) {
		t.Errorf("the results are now %s", short(again))
	}
}

// R2: results share no memory with arguments, with other results, or with other parts of themselves.
func TestChangeMemory(t *testing.T) {
	st, changes := roomy(open()), roomyChanges()
	first, second := runChanges(t, shop(), st, changes), runChanges(t, shop(), st, changes)
	want := first.copyOf()
	spoil(first.after)
	spoilChanges(first.inverse)
	spoilChanges(first.net)
	spoilChanges(first.diff)
	spoilChanges(first.backward)
	if !second.same(want) || !reflect.DeepEqual(whole(st), whole(roomy(open()))) || !reflect.DeepEqual(wholeChanges(changes), wholeChanges(roomyChanges())) {
		t.Error("a result shares memory")
	}
	for i := range second.after.Tables {
		for j := range second.after.Tables[i] {
			one := runChanges(t, shop(), roomy(open()), roomyChanges()).after
			spoilRow(one.Tables[i][j])
			_ = append(one.Tables[i], row(text("spoilt")))
			one.Tables[i][j] = want.after.Tables[i][j]
			if !sameState(one, want.after) {
				t.Errorf("row %d of list %d shares memory with another one", j, i)
			}
		}
	}
	for i := range want.net {
		net := runChanges(t, shop(), roomy(open()), roomyChanges()).net
		spoilRow(net[i].Old)
		net[i].Old = want.net[i].Old
		if !sameChanges(net, want.net) {
			t.Errorf("Old of change %d shares memory with another row", i)
		}
	}
	// One row in several places of the arguments becomes several rows.
	r := row(text("ann"), num(30))
	twice := table.Invert([]api.Change{change(0, r, r), change(0, r, r)})
	spoilRow(twice[0].Old)
	if !slices.Equal(twice[0].New, row(text("ann"), num(30))) || !slices.Equal(twice[1].Old, twice[1].New) || !slices.Equal(r, twice[1].Old) {
		t.Errorf("Invert shares memory: %v", twice)
	}
}

// P8.3: the row of one argument in many places is many rows in the result.
func TestApplySharedRows(t *testing.T) {
	s := one(1, ki, ki)
	s.Tables = append(s.Tables, api.Table{Name: "u", Columns: columns(ki, ki), Key: 1})
	rows := numbers(0, 3)
	after, errno := table.Apply(s, 1, state(rows, rows), nil)
	if errno != api.OK {
		t.Fatalf("Apply: %d", errno)
	}
	spoilRow(after.Tables[0][1])
	after.Tables[0][2] = nil
	if !sameRows(after.Tables[1], numbers(0, 3)) || !sameRows(rows, numbers(0, 3)) {
		t.Errorf("Apply shares memory: %v", after)
	}
	r := row(num(7), num(7))
	after, _ = table.Apply(s, 1, state(nil, nil), []api.Change{change(0, nil, r), change(1, nil, r)})
	spoilRow(after.Tables[0][0])
	if !slices.Equal(after.Tables[1][0], r) || r[0] != num(7) {
		t.Errorf("Apply shares memory: %v", after)
	}
}
