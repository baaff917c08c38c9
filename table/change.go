package table

import (
	"cmp"
	"slices"

	"partsync/api"
	"partsync/schema"
)

// Apply returns the state after the changes, one after another.
func Apply(s api.Schema, mode int, st api.State, changes []api.Change) (api.State, api.Errno) {
	if errno := Check(s, mode, st); errno != api.OK {
		return api.State{}, errno
	}
	lists := slices.Clone(st.Tables)
	room := api.MaxRows - Count(st)
	for _, c := range changes {
		if !valid(s, mode, c) {
			return api.State{}, api.ErrRow
		}
		list, errno := changeList(keyOrder(s, c.Table), lists[c.Table], c, room)
		if errno != api.OK {
			return api.State{}, errno
		}
		room += len(lists[c.Table]) - len(list)
		lists[c.Table] = list
	}
	return api.State{Tables: copyLists(lists)}, api.OK
}

// valid reports whether the change is one of a row of its table in this mode.
func valid(s api.Schema, mode int, c api.Change) bool {
	for _, row := range []api.Row{c.Old, c.New} {
		if len(row) > 0 && !schema.Fits(s, c.Table, row, mode) {
			return false
		}
	}
	if len(c.Old) == 0 {
		return len(c.New) > 0
	}
	return len(c.New) == 0 || keyOrder(s, c.Table)(c.Old, c.New) == 0
}

// changeList returns the list after the change; room is how many rows more the state may have. The list itself
// stays as it is, as it may be an argument's: an append to a part without capacity copies that part.
func changeList(order func(a, b api.Row) int, list []api.Row, c api.Change, room int) ([]api.Row, api.Errno) {
	at, found := slices.BinarySearchFunc(list, keyRow(c), order)
	end := at
	var row api.Row
	if found {
		row = list[at]
		end++
	}
	if !slices.Equal(row, c.Old) {
		return nil, api.ErrConflict
	}
	changed := list[:at:at]
	if len(c.New) > 0 {
		if !found && room == 0 {
			return nil, api.ErrLimit
		}
		changed = append(changed, c.New)
	}
	return append(changed, list[end:]...), api.OK
}

// keyRow returns a row of the change that has its key.
func keyRow(c api.Change) api.Row {
	if len(c.New) > 0 {
		return c.New
	}
	return c.Old
}

// copyLists returns the lists in memory of their own.
func copyLists(lists [][]api.Row) [][]api.Row {
	copies := make([][]api.Row, len(lists))
	for i, rows := range lists {
		copies[i] = make([]api.Row, len(rows))
		for j, row := range rows {
			copies[i][j] = copyRow(row)
		}
	}
	return copies
}

// Difference returns the changes that lead from a to b.
func Difference(s api.Schema, mode int, a, b api.State) ([]api.Change, api.Errno) {
	for _, st := range []api.State{a, b} {
		if errno := Check(s, mode, st); errno != api.OK {
			return nil, errno
		}
	}
	var changes []api.Change
	for table := range s.Tables {
		changes = appendChanges(changes, s, table, a.Tables[table], b.Tables[table])
	}
	return changes, api.OK
}

// appendChanges appends the changes that lead from the table's rows olds to its rows news.
func appendChanges(changes []api.Change, s api.Schema, table int, olds, news []api.Row) []api.Change {
	order := keyOrder(s, table)
	for len(olds) > 0 || len(news) > 0 {
		c := api.Change{Table: table}
		first := compareFirst(order, olds, news)
		if first <= 0 {
			c.Old, olds = olds[0], olds[1:]
		}
		if first >= 0 {
			c.New, news = news[0], news[1:]
		}
		changes = appendChange(changes, c)
	}
	return changes
}

// compareFirst compares the first rows of two lists of which one is not empty. No row is behind every row.
func compareFirst(order func(a, b api.Row) int, a, b []api.Row) int {
	if len(a) == 0 {
		return 1
	}
	if len(b) == 0 {
		return -1
	}
	return order(a[0], b[0])
}

// appendChange appends a copy of the change, if it changes anything.
func appendChange(changes []api.Change, c api.Change) []api.Change {
	if slices.Equal(c.Old, c.New) {
		return changes
	}
	return append(changes, api.Change{Table: c.Table, Old: copyRow(c.Old), New: copyRow(c.New)})
}

// Invert returns the changes that lead back, in reverse order.
func Invert(changes []api.Change) []api.Change {
	inverse := make([]api.Change, len(changes))
	for i, c := range changes {
		inverse[len(changes)-1-i] = api.Change{Table: c.Table, Old: copyRow(c.New), New: copyRow(c.Old)}
	}
	return inverse
}

// Net returns the changes of each key together as one.
func Net(s api.Schema, mode int, changes []api.Change) ([]api.Change, api.Errno) {
	if errno := checkMode(s, mode); errno != api.OK {
		return nil, errno
	}
	end := 0
	for end < len(changes) && valid(s, mode, changes[end]) {
		end++
	}
	net, errno := join(s, changes[:end])
	if errno == api.OK && end < len(changes) {
		return nil, api.ErrRow
	}
	return net, errno
}

// join returns the net of valid changes. A stable sort brings those of a key together in the order in which they
// stand; that they follow one another can then be seen from each two neighbours.
func join(s api.Schema, changes []api.Change) ([]api.Change, api.Errno) {
	order := func(a, b api.Change) int {
		if a.Table != b.Table {
			return cmp.Compare(a.Table, b.Table)
		}
		return keyOrder(s, a.Table)(keyRow(a), keyRow(b))
	}
	sorted := slices.Clone(changes)
	slices.SortStableFunc(sorted, order)
	var net []api.Change
	for len(sorted) > 0 {
		n := 1
		for n < len(sorted) && order(sorted[0], sorted[n]) == 0 {
			if !slices.Equal(sorted[n-1].New, sorted[n].Old) {
				return nil, api.ErrConflict
			}
			n++
		}
		net = appendChange(net, api.Change{Table: sorted[0].Table, Old: sorted[0].Old, New: sorted[n-1].New})
		sorted = sorted[n:]
	}
	return net, api.OK
}
