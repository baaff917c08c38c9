package schema

import (
	"partsync/api"
	"partsync/predicate"
)

// Check returns OK if the schema is valid; ErrLimit if it is too large, ErrSchema if something in it other than
// a check is not valid, and else the error of the first check that is not.
func Check(s api.Schema) api.Errno {
	if !small(s) {
		return api.ErrLimit
	}
	if !sound(s) {
		return api.ErrSchema
	}
	for i, t := range s.Tables {
		kinds := Kinds(s, i)
		for _, check := range t.Checks {
			if errno := predicate.Check(kinds, nil, check); errno != api.OK {
				return errno
			}
		}
	}
	return api.OK
}

// small reports whether the schema is within the limits.
func small(s api.Schema) bool {
	if len(s.Tables) > api.MaxTables {
		return false
	}
	for _, t := range s.Tables {
		if len(t.Columns) > api.MaxColumns || len(t.References) > api.MaxReferences || len(t.Checks) > api.MaxChecks {
			return false
		}
	}
	return true
}

// sound reports whether the schema is valid but for its limits and checks. The references come last: they rely
// on the keys of all tables.
func sound(s api.Schema) bool {
	return s.Version >= 0 && s.Version <= api.MaxVersion && soundTables(s.Tables) && soundReferences(s)
}

// soundTables reports whether the tables are valid, each by itself and in its name.
func soundTables(tables []api.Table) bool {
	seen := map[string]bool{}
	for _, t := range tables {
		if !newName(seen, t.Name) || !soundColumns(t.Columns) || t.Key < 1 || t.Key > len(t.Columns) {
			return false
		}
	}
	return true
}

// soundColumns reports whether the columns of a table are valid.
func soundColumns(columns []api.Column) bool {
	seen := map[string]bool{}
	for _, c := range columns {
		if !newName(seen, c.Name) || c.Kind != api.KindBool && c.Kind != api.KindInt && c.Kind != api.KindText {
			return false
		}
	}
	return true
}

// newName reports whether the text is a name that was not seen before, and notes that it was seen.
func newName(seen map[string]bool, text string) bool {
	if !isName(text) || seen[text] {
		return false
	}
	seen[text] = true
	return true
}

// isName reports whether the text is a name.
func isName(text string) bool {
	if len(text) < 1 || len(text) > api.MaxName {
		return false
	}
	for i, r := range text {
		letter := r >= 'a' && r <= 'z'
		later := r >= '0' && r <= '9' || r == '_'
		if !letter && (i == 0 || !later) {
			return false
		}
	}
	return true
}

// soundReferences reports whether the references of all tables are valid.
func soundReferences(s api.Schema) bool {
	for _, t := range s.Tables {
		for _, r := range t.References {
			if !refers(s, t, r) {
				return false
			}
		}
	}
	return true
}

// refers reports whether the reference is one from columns of the table to the key of a table.
func refers(s api.Schema, t api.Table, r api.Reference) bool {
	if _, ok := tableAt(s, r.Table); !ok {
		return false
	}
	key := KeyKinds(s, r.Table)
	if len(r.Columns) != len(key) {
		return false
	}
	for i, c := range r.Columns {
		if c < 0 || c >= len(t.Columns) || t.Columns[c].Kind != key[i] {
			return false
		}
	}
	return true
}
