// Package value is layer 1: it orders and enumerates the contents of cells (see shared/doc/01-value.md).
package value

import (
	"cmp"
	"math"
	"slices"

	"partsync/api"
)

// Valid reports whether v has one of the five kinds and zero in every field that its kind does not use.
func Valid(v api.Value) bool {
	switch v.Kind {
	case api.KindMissing, api.KindHidden:
		return v == api.Value{Kind: v.Kind}
	case api.KindBool:
		return v.Text == "" && (v.Int == 0 || v.Int == 1)
	case api.KindInt:
		return v.Text == ""
	case api.KindText:
		return v.Int == 0 && len(v.Text) <= api.MaxText
	}
	return false
}

// Real reports whether v is a valid bool, int or text.
func Real(v api.Value) bool {
	return v.Kind >= api.KindBool && Valid(v)
}

// Compare orders all values, valid or not, by Kind, then by Int, then by Text; it returns -1, 0 or 1.
func Compare(a, b api.Value) int {
	if a.Kind != b.Kind {
		return cmp.Compare(a.Kind, b.Kind)
	}
	if a.Int != b.Int {
		return cmp.Compare(a.Int, b.Int)
	}
	return cmp.Compare(a.Text, b.Text)
}

// Next returns the least valid value that is greater than v; false if v is not valid or is the greatest one.
func Next(v api.Value) (api.Value, bool) {
	if !Valid(v) {
		return api.Value{}, false
	}
	switch v.Kind {
	case api.KindBool:
		if v.Int == 0 {
			return api.Value{Kind: api.KindBool, Int: 1}, true
		}
	case api.KindInt:
		if v.Int < math.MaxInt64 {
			return api.Value{Kind: api.KindInt, Int: v.Int + 1}, true
		}
	case api.KindText:
		return nextText(v.Text)
	}
	return First(v.Kind + 1)
}

// nextText returns the text that follows the valid text s. No text of MaxText bytes can be made longer,
// so the next one is that in which the last byte that can grow has grown, and the bytes behind it are gone.
func nextText(s string) (api.Value, bool) {
	if len(s) < api.MaxText {
		return api.Value{Kind: api.KindText, Text: s + "\x00"}, true
	}
	// strings.TrimRight would take every byte that is not UTF-8 for the byte 255.
	n := len(s)
	for n > 0 && s[n-1] == 255 {
		n--
	}
	if n == 0 {
		return api.Value{}, false
	}
	grown := []byte(s[:n])
	grown[n-1]++
	return api.Value{Kind: api.KindText, Text: string(grown)}, true
}

// First returns the least valid value of the kind; false if there is no such kind.
func First(kind int) (api.Value, bool) {
	switch kind {
	case api.KindMissing, api.KindHidden, api.KindBool, api.KindText:
		return api.Value{Kind: kind}, true
	case api.KindInt:
		return api.Value{Kind: kind, Int: math.MinInt64}, true
	}
	return api.Value{}, false
}

// CompareRows orders rows by their first cells that differ, and a row before those that continue it; it returns -1, 0 or 1.
func CompareRows(a, b api.Row) int {
	for i := range min(len(a), len(b)) {
		if a[i] != b[i] {
			return Compare(a[i], b[i])
		}
	}
	return cmp.Compare(len(a), len(b))
}

// Set returns the relation of the rows: each row once, in strictly ascending order.
func Set(rows []api.Row) []api.Row {
	set := make([]api.Row, len(rows))
	copy(set, rows)
	slices.SortFunc(set, CompareRows)
	set = slices.CompactFunc(set, equalRows)
	for i, row := range set {
		set[i] = copyRow(row)
	}
	return set
}

// Has reports whether one of the rows is equal to row. The rows may stand in any order.
func Has(rows []api.Row, row api.Row) bool {
	for _, r := range rows {
		if equalRows(r, row) {
			return true
		}
	}
	return false
}

// equalRows reports whether the rows are equal: a nil row is an empty one.
func equalRows(a, b api.Row) bool {
	return slices.Equal(a, b)
}

// copyRow returns the row in memory of its own.
func copyRow(row api.Row) api.Row {
	c := make(api.Row, len(row))
	copy(c, row)
	return c
}
