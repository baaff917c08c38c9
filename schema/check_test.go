package schema_test

import (
	"fmt"
	"math"
	"math/rand"
	"regexp"
	"slices"
	"strings"
	"testing"

	"partsync/api"
	"partsync/schema"
)

func col(i int) api.Operand       { return api.Operand{Kind: api.OperandColumn, Index: i} }
func par(i int) api.Operand       { return api.Operand{Kind: api.OperandParam, Index: i} }
func val(v api.Value) api.Operand { return api.Operand{Kind: api.OperandValue, Value: v} }

// equal says that two operands are equal.
func equal(left, right api.Operand) api.Predicate {
	return api.Predicate{Op: api.PredCompare, Cmp: api.CmpEq, Left: left, Right: right}
}

// rising says that the first cell of a row is below the third one.
func rising() api.Predicate {
	return api.Predicate{Op: api.PredCompare, Cmp: api.CmpLt, Left: col(0), Right: col(2)}
}

func always() api.Predicate { return api.Predicate{Op: api.PredTrue} }

// tooMany has one node more than MaxNodes, and each of its arguments is valid.
func tooMany() api.Predicate {
	return api.Predicate{Op: api.PredAnd, Args: slices.Repeat([]api.Predicate{always()}, 24)}
}

// tooDeep has one level more than MaxDepth.
func tooDeep() api.Predicate {
	p := always()
	for range 8 {
		p = api.Predicate{Op: api.PredNot, Args: []api.Predicate{p}}
	}
	return p
}

// expect checks the result of Check.
func expect(t *testing.T, what string, s api.Schema, want api.Errno) {
	t.Helper()
	if got := schema.Check(s); got != want {
		t.Errorf("%s: Check(%.300s) = %d, want %d", what, fmt.Sprint(s), got, want)
	}
}

// P7.1: schemas that are valid, up to all limits at once.
func TestCheckValid(t *testing.T) {
	expect(t, "no tables", api.Schema{}, api.OK)
	expect(t, "shop", shop(), api.OK)
	expect(t, "one column", one(1, kb), api.OK)
	for _, version := range []int{0, 1, 999, 1000} {
		s := shop()
		s.Version = version
		expect(t, "version", s, api.OK)
	}
	for key := 1; key <= 3; key++ {
		expect(t, "key", one(key, ki, kb, kt), api.OK)
	}
	same := shop()
	same.Tables[1].Name, same.Tables[1].Columns[0].Name = "name", "name"
	expect(t, "names that are those of other things", same, api.OK)
	expect(t, "full", full(), api.OK)
}

// full is a schema at all limits, without a name that is too long.
func full() api.Schema {
	s := api.Schema{Version: 1000}
	for i := range 8 {
		table := api.Table{Name: strings.Repeat("t", i+1), Columns: columns(ki, kt, kb, ki, kt, kb, ki, kt), Key: i + 1}
		for n := range 4 {
			every := []int{0, 1, 2, 3, 4, 5, 6, 7}
			table.References = append(table.References, api.Reference{Columns: every[:2*n+1], Table: 2 * n})
			table.Checks = append(table.Checks, api.Predicate{Op: api.PredOr, Args: slices.Repeat([]api.Predicate{equal(col(n), col(n))}, 23)})
		}
		s.Tables = append(s.Tables, table)
	}
	return s
}

// flaw is one way to make a schema of three tables or more invalid, in the table at an index.
type flaw struct {
	name  string
	spoil func(s *api.Schema, i int)
}

// tooLarge lists what is ErrLimit. Nothing of it is an error but for its number.
func tooLarge() []flaw {
	return []flaw{
		{"nine tables", func(s *api.Schema, _ int) {
			for len(s.Tables) < 9 {
				s.Tables = append(s.Tables, api.Table{Name: "more_" + string(rune('a'+len(s.Tables))), Columns: columns(ki), Key: 1})
			}
		}},
		{"nine columns", func(s *api.Schema, i int) { s.Tables[i].Columns = columns(ki, ki, ki, ki, ki, ki, ki, ki, ki) }},
		{"many columns", func(s *api.Schema, i int) { s.Tables[i].Columns = make([]api.Column, 1000) }},
		{"five references", func(s *api.Schema, i int) {
			s.Tables[i].References = slices.Repeat([]api.Reference{{Columns: []int{0}, Table: 1}}, 5)
		}},
		{"five checks", func(s *api.Schema, i int) {
			s.Tables[i].Checks = slices.Repeat([]api.Predicate{always()}, 5)
		}},
	}
}

// unsound lists what is ErrSchema.
func unsound() []flaw {
	refer := func(table int, columns ...int) func(*api.Schema, int) {
		return func(s *api.Schema, i int) {
			old := s.Tables[i].References
			s.Tables[i].References = append(slices.Clone(old[:min(len(old), 3)]), api.Reference{Columns: columns, Table: table})
		}
	}
	return []flaw{
		{"version -1", func(s *api.Schema, _ int) { s.Version = -1 }},
		{"version 1001", func(s *api.Schema, _ int) { s.Version = 1001 }},
		{"least version", func(s *api.Schema, _ int) { s.Version = math.MinInt }},
		{"greatest version", func(s *api.Schema, _ int) { s.Version = math.MaxInt }},
		{"no name", func(s *api.Schema, i int) { s.Tables[i].Name = "" }},
		{"bad name", func(s *api.Schema, i int) { s.Tables[i].Name = "Table" }},
		{"the name of another table", func(s *api.Schema, i int) { s.Tables[i].Name = s.Tables[(i+1)%3].Name }},
		{"no columns", func(s *api.Schema, i int) { s.Tables[i].Columns = nil }},
		{"no columns and key 0", func(s *api.Schema, i int) { s.Tables[i].Columns, s.Tables[i].Key = nil, 0 }},
		{"column without name", func(s *api.Schema, i int) { s.Tables[i].Columns[1].Name = "" }},
		{"column with a bad name", func(s *api.Schema, i int) { s.Tables[i].Columns[1].Name = "_a" }},
		{"two columns of one name", func(s *api.Schema, i int) { s.Tables[i].Columns[1].Name = s.Tables[i].Columns[0].Name }},
		{"the last column's name is that of the first one", func(s *api.Schema, i int) {
			s.Tables[i].Columns[len(s.Tables[i].Columns)-1].Name = s.Tables[i].Columns[0].Name
		}},
		{"kind 0", func(s *api.Schema, i int) { s.Tables[i].Columns[1].Kind = 0 }},
		{"kind Missing", func(s *api.Schema, i int) { s.Tables[i].Columns[1].Kind = api.KindMissing }},
		{"kind Hidden", func(s *api.Schema, i int) { s.Tables[i].Columns[1].Kind = api.KindHidden }},
		{"kind 6", func(s *api.Schema, i int) { s.Tables[i].Columns[1].Kind = 6 }},
		{"kind -3", func(s *api.Schema, i int) { s.Tables[i].Columns[1].Kind = -3 }},
		{"key 0", func(s *api.Schema, i int) { s.Tables[i].Key = 0 }},
		{"key -1", func(s *api.Schema, i int) { s.Tables[i].Key = -1 }},
		{"least key", func(s *api.Schema, i int) { s.Tables[i].Key = math.MinInt }},
		{"key that is too large", func(s *api.Schema, i int) { s.Tables[i].Key = len(s.Tables[i].Columns) + 1 }},
		{"greatest key", func(s *api.Schema, i int) { s.Tables[i].Key = math.MaxInt }},
		{"reference to table -1", refer(-1, 0)},
		{"reference to a table that is not there", refer(100, 0)},
		{"reference to a table that is far away", refer(math.MaxInt, 0)},
		{"reference of nothing to table -1", refer(-1)},
		{"reference of nothing to a table that is not there", refer(100)},
		{"reference of nothing", refer(0)},
		{"reference of too many columns", refer(0, 0, 1)},
		{"reference of very many columns", refer(0, make([]int, 10000)...)},
		{"reference of too few columns", refer(2, 0, 1)},
		{"reference of column -1", refer(0, -1)},
		{"reference of a column that is not there", refer(0, 8)},
		{"reference of a column that is far away", refer(0, math.MaxInt)},
		{"reference of the least column", refer(0, math.MinInt)},
		{"reference with one column that is not there", refer(2, 0, 1, 8)},
	}
}

// badCheck adds a check to the table, behind one that is valid.
func badCheck(p api.Predicate) func(*api.Schema, int) {
	return func(s *api.Schema, i int) { s.Tables[i].Checks = []api.Predicate{always(), p} }
}

// badChecks lists what is ErrPredicate.
func badChecks() []flaw {
	return []flaw{
		{"check without operator", badCheck(api.Predicate{})},
		{"check of a column that is not there", badCheck(equal(col(8), col(8)))},
		{"check of column -1", badCheck(equal(col(-1), col(-1)))},
		{"check of a parameter", badCheck(equal(par(0), par(0)))},
		{"check of two kinds", badCheck(equal(val(num(1)), val(text("a"))))},
		{"check with a value that is not real", badCheck(equal(val(hidden()), val(hidden())))},
	}
}

// largeChecks lists the checks that are ErrLimit.
func largeChecks() []flaw {
	return []flaw{{"large check", badCheck(tooMany())}, {"deep check", badCheck(tooDeep())}}
}

// P7.1: each error by itself, in each of the tables.
func TestCheckErrors(t *testing.T) {
	for _, c := range []struct {
		flaws []flaw
		want  api.Errno
	}{
		{tooLarge(), api.ErrLimit}, {unsound(), api.ErrSchema}, {badChecks(), api.ErrPredicate}, {largeChecks(), api.ErrLimit},
	} {
		for _, f := range c.flaws {
			for i := range 3 {
				s := shop()
				f.spoil(&s, i)
				expect(t, f.name, s, c.want)
			}
			s := full()
			f.spoil(&s, 7)
			expect(t, f.name+", of a full schema", s, c.want)
		}
	}
}

// P7.1: the order of the errors, whichever table they are in.
func TestCheckOrder(t *testing.T) {
	classes := []struct {
		flaws []flaw
		want  api.Errno
	}{
		{tooLarge(), api.ErrLimit}, {unsound(), api.ErrSchema}, {badChecks(), api.ErrPredicate},
	}
	for n, first := range classes {
		later := largeChecks()
		if n == 2 {
			later = nil
		}
		for _, class := range classes[n+1:] {
			later = append(later, class.flaws...)
		}
		for _, f := range first.flaws {
			for _, g := range later {
				for i := range 9 {
					s := shop()
					// The worse flaw comes last, as it may be one that the other would undo.
					g.spoil(&s, i/3)
					f.spoil(&s, i%3)
					expect(t, f.name+", "+g.name, s, first.want)
				}
			}
		}
	}
}

// P7.1: of the checks, the first one with an error decides: tables in order, and the checks of each in order.
func TestCheckFirstCheck(t *testing.T) {
	good, bad, large := always(), api.Predicate{}, tooDeep()
	for _, c := range []struct {
		first, second []api.Predicate
		want          api.Errno
	}{
		{nil, nil, api.OK},
		{[]api.Predicate{good, good, good, good}, []api.Predicate{good}, api.OK},
		{[]api.Predicate{bad, large}, nil, api.ErrPredicate}, {[]api.Predicate{large, bad}, nil, api.ErrLimit},
		{nil, []api.Predicate{bad, large}, api.ErrPredicate}, {nil, []api.Predicate{large, bad}, api.ErrLimit},
		{[]api.Predicate{bad}, []api.Predicate{large}, api.ErrPredicate}, {[]api.Predicate{large}, []api.Predicate{bad}, api.ErrLimit},
		{[]api.Predicate{good, good, good, bad}, []api.Predicate{large}, api.ErrPredicate},
		{[]api.Predicate{good, good, good, large}, []api.Predicate{bad}, api.ErrLimit},
		{[]api.Predicate{good}, []api.Predicate{good, good, good, bad}, api.ErrPredicate},
		{[]api.Predicate{good}, []api.Predicate{good, good, good, large}, api.ErrLimit},
	} {
		s := shop()
		s.Tables[0].Checks, s.Tables[2].Checks = c.first, c.second
		expect(t, "checks", s, c.want)
	}
}

// P7.1: a check is one over the columns of its own table, and without parameters.
func TestCheckColumns(t *testing.T) {
	for _, c := range []struct {
		table int
		p     api.Predicate
		want  api.Errno
	}{
		{0, equal(col(0), val(text("a"))), api.OK}, {0, equal(col(1), val(num(1))), api.OK},
		{0, equal(col(0), val(num(1))), api.ErrPredicate}, {0, equal(col(1), val(yes())), api.ErrPredicate},
		{0, equal(col(2), col(2)), api.ErrPredicate}, {0, equal(col(0), col(1)), api.ErrPredicate},
		{1, equal(col(1), val(yes())), api.OK}, {1, equal(col(2), val(text(""))), api.OK},
		{1, equal(col(2), col(2)), api.OK}, {1, equal(col(3), col(3)), api.ErrPredicate},
		{2, equal(col(0), col(2)), api.OK}, {2, equal(col(3), val(no())), api.OK}, {2, equal(col(3), col(0)), api.ErrPredicate},
		{2, rising(), api.OK}, {1, rising(), api.ErrPredicate},
		{2, equal(col(0), par(0)), api.ErrPredicate}, {2, equal(par(2), col(2)), api.ErrPredicate},
	} {
		s := shop()
		s.Tables[c.table].Checks = []api.Predicate{c.p}
		expect(t, "check", s, c.want)
	}
}

// name is what a name is.
var name = regexp.MustCompile(`^[a-z][a-z0-9_]{0,31}$`)

// P7.1: which texts are names, against an expression for them. All texts of up to two bytes, others of three, and longer ones.
func TestNames(t *testing.T) {
	texts := []string{
		"", "a", "abc", "a1", "a_", "a_1", "z9_z9_", "tasks", "_", "1", "1a", "_a", "A", "aB", "a b", " a", "a ", "a\n", "\na", "a\x00", "a-b", "a.b",
		"é", "aé", "ａ", "aａ", "a１", "ß", "aµ", "a\u0301", "a\xff", "\xff", "a\xc3", "\xe2\x82", "a\ufffd",
		strings.Repeat("é", 16), strings.Repeat("a", 31), strings.Repeat("a", 32), strings.Repeat("a", 33), strings.Repeat("a", 64),
		strings.Repeat("a", 31) + "_", strings.Repeat("a", 31) + "é", strings.Repeat("a", 31) + "A", "z" + strings.Repeat("9", 31), "z" + strings.Repeat("9", 32),
		strings.Repeat("a", 1<<20), "a" + strings.Repeat("é", 16),
	}
	for a := range 256 {
		texts = append(texts, string([]byte{byte(a)}), string([]byte{'a', 'b', byte(a)}), string([]byte{'a', byte(a), 'b'}))
		for b := range 256 {
			texts = append(texts, string([]byte{byte(a), byte(b)}))
		}
	}
	for _, s := range texts {
		want := api.ErrSchema
		if name.MatchString(s) {
			want = api.OK
		}
		table, column := shop(), shop()
		table.Tables[0].Name = s
		column.Tables[0].Columns[1].Name = s
		if schema.Check(table) != want || schema.Check(column) != want {
			t.Errorf("the name %q: Check = %d and %d, want %d", s, schema.Check(table), schema.Check(column), want)
		}
	}
}

// P7.1: names are those of one list only: of the tables, or of the columns of one table.
func TestTwins(t *testing.T) {
	for i := range 8 {
		for j := range i {
			s := full()
			s.Tables[i].Name = s.Tables[j].Name
			expect(t, "tables of one name", s, api.ErrSchema)
			s = full()
			s.Tables[3].Columns[i].Name = s.Tables[3].Columns[j].Name
			expect(t, "columns of one name", s, api.ErrSchema)
			s = full()
			s.Tables[i].Name = s.Tables[i].Columns[j].Name + "x"
			s.Tables[j].Columns[0].Name = s.Tables[i].Name
			s.Tables[i].Columns[7].Name = s.Tables[i].Name
			expect(t, "names of several lists", s, api.OK)
		}
	}
}

// P7.1: references to a table before and behind, to the table itself, and of the columns in any order.
func TestReferences(t *testing.T) {
	s := api.Schema{Tables: []api.Table{
		{Name: "a", Columns: columns(ki, kt, ki, kb), Key: 2},
		{Name: "b", Columns: columns(kt, ki, ki, kt, kb), Key: 1},
		{Name: "c", Columns: columns(ki, ki, kb), Key: 3},
	}}
	for _, c := range []struct {
		from, to int
		columns  []int
		want     api.Errno
	}{
		{0, 0, []int{0, 1}, api.OK}, {0, 0, []int{2, 1}, api.OK}, {0, 0, []int{1, 0}, api.ErrSchema}, {0, 0, []int{0, 2}, api.ErrSchema}, {0, 0, []int{3, 1}, api.ErrSchema},
		{0, 1, []int{1}, api.OK}, {0, 1, []int{0}, api.ErrSchema}, {0, 1, []int{3}, api.ErrSchema}, {0, 1, []int{4}, api.ErrSchema}, {0, 1, []int{1, 0}, api.ErrSchema},
		{0, 2, []int{0, 2, 3}, api.OK}, {0, 2, []int{2, 0, 3}, api.OK}, {0, 2, []int{0, 0, 3}, api.OK}, {0, 2, []int{0, 2, 4}, api.ErrSchema},
		{0, 2, []int{0, 2}, api.ErrSchema}, {0, 2, []int{0, 2, 3, 3}, api.ErrSchema}, {0, 2, []int{0, 1, 3}, api.ErrSchema}, {0, 2, []int{-1, 2, 3}, api.ErrSchema},
		{1, 0, []int{1, 0}, api.OK}, {1, 0, []int{2, 3}, api.OK}, {1, 0, []int{0, 1}, api.ErrSchema}, {1, 0, []int{4, 3}, api.ErrSchema}, {1, 0, []int{2, 5}, api.ErrSchema},
		{1, 1, []int{0}, api.OK}, {1, 1, []int{3}, api.OK}, {1, 1, []int{4}, api.ErrSchema}, {1, 1, nil, api.ErrSchema},
		{2, 0, []int{0, 1}, api.ErrSchema}, {2, 1, []int{0}, api.ErrSchema}, {2, 2, []int{0, 1, 2}, api.OK}, {2, 2, []int{1, 0, 2}, api.OK}, {2, 2, []int{0, 1, 3}, api.ErrSchema},
		{2, 3, []int{0, 1, 2}, api.ErrSchema}, {2, -1, []int{0, 1, 2}, api.ErrSchema},
	} {
		for _, before := range [][]api.Reference{nil, {{Columns: []int{}, Table: c.from}}} {
			tables := slices.Clone(s.Tables)
			for i := range before {
				before[i].Columns = []int{0, 1, 2}[:tables[c.from].Key]
			}
			tables[c.from].References = append(before, api.Reference{Columns: c.columns, Table: c.to})
			expect(t, "reference", api.Schema{Tables: tables}, c.want)
		}
	}
}

// P7.1: a reference to a table whose Key is wrong is an error too, and no harm.
func TestReferencesToBadKeys(t *testing.T) {
	for _, key := range []int{math.MinInt, -1, 0, 4, 5, math.MaxInt} {
		for n := range 6 {
			s := api.Schema{Tables: []api.Table{
				{Name: "a", Columns: columns(ki, ki, ki), Key: 1, References: []api.Reference{{Columns: []int{0, 1, 2, 0, 1, 2}[:n], Table: 1}}},
				{Name: "b", Columns: columns(ki, ki, ki), Key: key},
			}}
			expect(t, "key of the other table", s, api.ErrSchema)
		}
	}
}

// P7.1 and P7.4: random schemas, most of them close to valid, against the promise read word by word. If Check
// returns OK, the cells that a reference names have the kinds of the other table's key.
func TestCheckRandom(t *testing.T) {
	random := rand.New(rand.NewSource(71))
	counts := map[api.Errno]int{}
	for range 40000 {
		s := randomSchema(random)
		want := model(s)
		expect(t, "random", s, want)
		counts[want]++
		if want != api.OK {
			continue
		}
		for i, table := range s.Tables {
			for _, r := range table.References {
				var kinds []int
				for _, c := range r.Columns {
					kinds = append(kinds, schema.Kinds(s, i)[c])
				}
				if !slices.Equal(kinds, schema.KeyKinds(s, r.Table)) {
					t.Errorf("%v: the reference %v has the kinds %v", s, r, kinds)
				}
			}
		}
	}
	if counts[api.OK] < 4000 || counts[api.ErrSchema] < 4000 || counts[api.ErrPredicate] < 500 || counts[api.ErrLimit] < 1000 {
		t.Errorf("the schemas are no good ones: %v", counts)
	}
}

// randomSchema returns a schema of up to four tables, that may have a flaw or more.
func randomSchema(random *rand.Rand) api.Schema {
	seldom := func() bool { return random.Intn(40) == 0 }
	s := api.Schema{Version: random.Intn(1001)}
	if seldom() {
		s.Version = []int{-1, 1001}[random.Intn(2)]
	}
	n := random.Intn(4)
	for i := range n {
		var kinds []int
		for range 1 + random.Intn(3) {
			kinds = append(kinds, 3+random.Intn(2))
		}
		table := api.Table{Name: string(rune('a' + i)), Columns: columns(kinds...), Key: 1 + random.Intn(len(kinds))}
		if seldom() {
			table.Name = []string{"a", "A", ""}[random.Intn(3)]
		}
		if seldom() {
			table.Columns[random.Intn(len(kinds))].Name = []string{"a", "A", ""}[random.Intn(3)]
		}
		if seldom() {
			table.Columns[random.Intn(len(kinds))].Kind = random.Intn(8) - 1
		}
		if seldom() {
			table.Key = random.Intn(6) - 1
		}
		if seldom() {
			table.Columns = nil
		}
		for range random.Intn(2) + random.Intn(2)*random.Intn(2) {
			r := api.Reference{Table: random.Intn(n)}
			for range 1 + random.Intn(2) {
				r.Columns = append(r.Columns, random.Intn(len(kinds)))
			}
			if seldom() {
				r.Table, r.Columns[0] = random.Intn(7)-2, random.Intn(7)-2
			}
			table.References = append(table.References, r)
		}
		for range random.Intn(2) {
			table.Checks = append(table.Checks, []api.Predicate{always(), always(), equal(col(0), col(random.Intn(2))), equal(col(0), val(num(1))), tooDeep()}[random.Intn(5)])
		}
		s.Tables = append(s.Tables, table)
	}
	return s
}

// model is Check for the schemas that randomSchema returns: these are within the limits, but for tooDeep.
func model(s api.Schema) api.Errno {
	bad := s.Version < 0 || s.Version > 1000
	for i, table := range s.Tables {
		bad = bad || !name.MatchString(table.Name) || len(table.Columns) == 0 || table.Key < 1 || table.Key > len(table.Columns)
		for _, earlier := range s.Tables[:i] {
			bad = bad || earlier.Name == table.Name
		}
		for j, c := range table.Columns {
			bad = bad || !name.MatchString(c.Name) || !slices.Contains([]int{kb, ki, kt}, c.Kind)
			for _, earlier := range table.Columns[:j] {
				bad = bad || earlier.Name == c.Name
			}
		}
		for _, r := range table.References {
			if r.Table < 0 || r.Table >= len(s.Tables) || len(r.Columns) != s.Tables[r.Table].Key {
				bad = true
				continue
			}
			other := s.Tables[r.Table].Columns
			for n, c := range r.Columns {
				bad = bad || c < 0 || c >= len(table.Columns) || n >= len(other) || table.Columns[c].Kind != other[n].Kind
			}
		}
	}
	if bad {
		return api.ErrSchema
	}
	for _, table := range s.Tables {
		for _, check := range table.Checks {
			if check.Op == api.PredNot {
				return api.ErrLimit
			}
			if check.Op == api.PredTrue {
				continue
			}
			right := check.Right.Value.Kind
			if check.Right.Kind == api.OperandColumn {
				if check.Right.Index >= len(table.Columns) {
					return api.ErrPredicate
				}
				right = table.Columns[check.Right.Index].Kind
			}
			if table.Columns[0].Kind != right {
				return api.ErrPredicate
			}
		}
	}
	return api.OK
}

// P7.1, R1: predicates and schemas that are far too large end with an error all the same.
func TestCheckHuge(t *testing.T) {
	circle := []api.Predicate{{Op: api.PredAnd}}
	circle[0].Args = circle
	s := shop()
	s.Tables[0].Checks = circle
	expect(t, "a check that contains itself", s, api.ErrLimit)
	s.Tables = slices.Repeat(s.Tables, 100000)
	expect(t, "very many tables", s, api.ErrLimit)
}
