package schema_test

import (
	"math"
	"math/rand"
	"reflect"
	"slices"
	"strings"
	"testing"

	"partsync/api"
	"partsync/schema"
)

const (
	kb = api.KindBool
	ki = api.KindInt
	kt = api.KindText
)

func missing() api.Value      { return api.Value{Kind: api.KindMissing} }
func hidden() api.Value       { return api.Value{Kind: api.KindHidden} }
func no() api.Value           { return api.Value{Kind: api.KindBool} }
func yes() api.Value          { return api.Value{Kind: api.KindBool, Int: 1} }
func num(n int64) api.Value   { return api.Value{Kind: api.KindInt, Int: n} }
func text(s string) api.Value { return api.Value{Kind: api.KindText, Text: s} }

func row(cells ...api.Value) api.Row { return cells }

// columns returns columns of these kinds, with the names a, b, and so on.
func columns(kinds ...int) []api.Column {
	var list []api.Column
	for i, kind := range kinds {
		list = append(list, api.Column{Name: string(rune('a' + i%26)), Kind: kind})
	}
	return list
}

// shop is a schema with the tables users (name, age), shops (id, open, owner) and sales (shop, user, at, paid).
func shop() api.Schema {
	return api.Schema{Version: 3, Tables: []api.Table{
		{Name: "users", Columns: []api.Column{{Name: "name", Kind: kt}, {Name: "age", Kind: ki}}, Key: 1},
		{
			Name: "shops", Columns: []api.Column{{Name: "id", Kind: ki}, {Name: "open", Kind: kb}, {Name: "owner", Kind: kt}}, Key: 1,
			References: []api.Reference{{Columns: []int{2}, Table: 0}},
		},
		{
			Name: "sales", Columns: []api.Column{{Name: "shop", Kind: ki}, {Name: "user", Kind: kt}, {Name: "at", Kind: ki}, {Name: "paid", Kind: kb}}, Key: 3,
			References: []api.Reference{{Columns: []int{0}, Table: 1}, {Columns: []int{1}, Table: 0}},
		},
	}}
}

// one is a schema with one table: Check may refuse it.
func one(key int, kinds ...int) api.Schema {
	return api.Schema{Tables: []api.Table{{Name: "t", Columns: columns(kinds...), Key: key}}}
}

// P7.2: the first table with the name.
func TestFind(t *testing.T) {
	twins := shop()
	twins.Tables[2].Name = "shops"
	odd := shop()
	odd.Tables[0].Name, odd.Tables[1].Name, odd.Tables[2].Name = "No name!", "", strings.Repeat("a", 33)
	many := api.Schema{Tables: make([]api.Table, 100)}
	many.Tables[99].Name = "last"
	for _, c := range []struct {
		s    api.Schema
		name string
		want int
	}{
		{shop(), "users", 0}, {shop(), "shops", 1}, {shop(), "sales", 2},
		{shop(), "", -1}, {shop(), "user", -1}, {shop(), "userss", -1}, {shop(), "Users", -1}, {shop(), "name", -1},
		{api.Schema{}, "", -1}, {api.Schema{}, "users", -1},
		{twins, "shops", 1}, {twins, "sales", -1},
		{odd, "No name!", 0}, {odd, "", 1}, {odd, strings.Repeat("a", 33), 2}, {odd, strings.Repeat("a", 32), -1},
		{many, "last", 99}, {many, "", 0}, {many, "first", -1},
		{api.Schema{Version: -1, Tables: shop().Tables}, "sales", 2},
	} {
		if got := schema.Find(c.s, c.name); got != c.want {
			t.Errorf("Find(%v, %q) = %d, want %d", c.s, c.name, got, c.want)
		}
	}
}

// P7.2: the kinds of all columns, and of those of the key; nothing where there is no such table.
func TestKinds(t *testing.T) {
	many := slices.Repeat([]int{ki, kt, 7}, 30)
	for _, c := range []struct {
		s          api.Schema
		table      int
		kinds, key []int
	}{
		{shop(), 0, []int{kt, ki}, []int{kt}},
		{shop(), 1, []int{ki, kb, kt}, []int{ki}},
		{shop(), 2, []int{ki, kt, ki, kb}, []int{ki, kt, ki}},
		{shop(), 3, nil, nil}, {shop(), -1, nil, nil}, {shop(), math.MaxInt, nil, nil}, {shop(), math.MinInt, nil, nil},
		{api.Schema{}, 0, nil, nil}, {api.Schema{}, -1, nil, nil},
		{one(0, ki, kt), 0, []int{ki, kt}, nil},
		{one(1, ki, kt), 0, []int{ki, kt}, []int{ki}},
		{one(2, ki, kt), 0, []int{ki, kt}, []int{ki, kt}},
		{one(3, ki, kt), 0, []int{ki, kt}, []int{ki, kt}},
		{one(math.MaxInt, ki, kt), 0, []int{ki, kt}, []int{ki, kt}},
		{one(-1, ki, kt), 0, []int{ki, kt}, nil},
		{one(math.MinInt, ki, kt), 0, []int{ki, kt}, nil},
		{one(1), 0, nil, nil}, {one(0), 0, nil, nil}, {one(-1), 0, nil, nil},
		{one(3, 0, -5, 99, math.MaxInt), 0, []int{0, -5, 99, math.MaxInt}, []int{0, -5, 99}},
		{one(1, api.KindHidden, api.KindMissing), 0, []int{api.KindHidden, api.KindMissing}, []int{api.KindHidden}},
		{one(50, many...), 0, many, many[:50]},
	} {
		if got := schema.Kinds(c.s, c.table); !slices.Equal(got, c.kinds) {
			t.Errorf("Kinds(%v, %d) = %v, want %v", c.s, c.table, got, c.kinds)
		}
		if got := schema.KeyKinds(c.s, c.table); !slices.Equal(got, c.key) {
			t.Errorf("KeyKinds(%v, %d) = %v, want %v", c.s, c.table, got, c.key)
		}
	}
}

// P7.2: the cells of the key, also of a row or a schema that is not valid.
func TestKey(t *testing.T) {
	odd := row(api.Value{Kind: 9, Int: 1, Text: "x"}, missing(), hidden(), text(strings.Repeat("a", 65)))
	for _, c := range []struct {
		s         api.Schema
		table     int
		row, want api.Row
	}{
		{shop(), 0, row(text("a"), num(1)), row(text("a"))},
		{shop(), 1, row(num(7), yes(), text("a")), row(num(7))},
		{shop(), 2, row(num(1), text("a"), num(2), no()), row(num(1), text("a"), num(2))},
		// A row that is too short or too long.
		{shop(), 2, row(num(1), text("a"), num(2)), row(num(1), text("a"), num(2))},
		{shop(), 2, row(num(1), text("a")), row(num(1), text("a"))},
		{shop(), 2, row(num(1)), row(num(1))},
		{shop(), 2, nil, nil}, {shop(), 2, row(), nil},
		{shop(), 0, row(num(1), num(2), num(3), num(4), num(5)), row(num(1))},
		{shop(), 2, row(num(1), num(2), num(3), num(4), num(5)), row(num(1), num(2), num(3))},
		// Cells of other kinds, and cells that are not valid.
		{shop(), 1, row(hidden()), row(hidden())},
		{shop(), 2, odd, odd[:3]},
		// No such table.
		{shop(), 3, row(num(1)), nil}, {shop(), -1, row(num(1)), nil},
		{shop(), math.MaxInt, row(num(1)), nil}, {shop(), math.MinInt, row(num(1)), nil},
		{api.Schema{}, 0, row(num(1)), nil},
		// A key that is no key: the row decides, not the columns.
		{one(0, ki, kt), 0, row(num(1), text("a")), nil},
		{one(-1, ki, kt), 0, row(num(1), text("a")), nil},
		{one(math.MinInt, ki, kt), 0, row(num(1), text("a")), nil},
		{one(3, ki, kt), 0, row(num(1), text("a")), row(num(1), text("a"))},
		{one(3, ki), 0, row(num(1), num(2), num(3), num(4)), row(num(1), num(2), num(3))},
		{one(2), 0, row(num(1), num(2), num(3)), row(num(1), num(2))},
		{one(math.MaxInt, ki), 0, odd, odd},
	} {
		if got := schema.Key(c.s, c.table, c.row); !slices.Equal(got, c.want) {
			t.Errorf("Key(%v, %d, %v) = %v, want %v", c.s, c.table, c.row, got, c.want)
		}
	}
}

// fits says in which of the modes 1 to 3 a row fits.
type fits [3]bool

var (
	noMode    = fits{}
	lastMode  = fits{false, false, true}
	lateModes = fits{false, true, true}
	allModes  = fits{true, true, true}
)

// expectFits checks in which modes the row fits: in none that is not one of the three.
func expectFits(t *testing.T, s api.Schema, table int, r api.Row, want fits) {
	t.Helper()
	for mode := -1; mode <= 5; mode++ {
		wanted := mode >= 1 && mode <= 3 && want[mode-1]
		if got := schema.Fits(s, table, r, mode); got != wanted {
			t.Errorf("Fits(%v, %d, %v, %d) = %v", s, table, r, mode, got)
		}
	}
	for _, mode := range []int{math.MinInt, math.MaxInt, 100} {
		if schema.Fits(s, table, r, mode) {
			t.Errorf("Fits(%v, %d, %v, %d)", s, table, r, mode)
		}
	}
}

// P7.3: the examples of the chapter, rows of the wrong length, and tables that are not there.
func TestFits(t *testing.T) {
	example := one(1, ki, kt)
	for _, c := range []struct {
		s     api.Schema
		table int
		row   api.Row
		want  fits
	}{
		{example, 0, row(num(1), text("a")), allModes},
		{example, 0, row(num(1), hidden()), lateModes},
		{example, 0, row(hidden(), text("a")), noMode},
		{example, 0, row(missing(), text("a")), noMode},
		{example, 0, row(num(1), missing()), lastMode},
		{example, 0, row(hidden(), hidden()), noMode},
		{example, 0, row(), noMode}, {example, 0, nil, noMode},
		{example, 0, row(num(1)), noMode},
		{example, 0, row(num(1), text("a"), num(1)), noMode},
		{example, 0, row(num(1), text("a"), missing()), noMode},
		{example, 1, row(num(1), text("a")), noMode}, {example, -1, row(num(1), text("a")), noMode},
		{example, 1, nil, noMode}, {example, -1, nil, noMode},
		{example, math.MaxInt, nil, noMode}, {example, math.MinInt, nil, noMode},
		{api.Schema{}, 0, nil, noMode},
		{shop(), 0, row(text("a"), num(1)), allModes},
		{shop(), 1, row(num(1), yes(), text("")), allModes},
		{shop(), 2, row(num(1), text("a"), num(2), no()), allModes},
		{shop(), 2, row(num(1), text("a"), num(2), hidden()), lateModes},
		{shop(), 2, row(num(1), text("a"), num(2), missing()), lastMode},
		{shop(), 2, row(num(1), text("a"), hidden(), no()), noMode},
		{shop(), 2, row(num(1), text("a"), missing(), no()), noMode},
		{shop(), 2, row(num(1), hidden(), num(2), hidden()), noMode},
		{shop(), 1, row(num(1), hidden(), hidden()), lateModes},
		{shop(), 1, row(num(1), hidden(), text("a")), lateModes},
		{shop(), 1, row(num(1), yes(), hidden()), lateModes},
		{shop(), 1, row(num(1), hidden(), missing()), lastMode},
		{shop(), 1, row(num(1), missing(), hidden()), lastMode},
		{shop(), 1, row(num(1), missing(), missing()), lastMode},
	} {
		expectFits(t, c.s, c.table, c.row, c.want)
	}
}

// P7.3: the key may be anything, and so may the number of columns.
func TestFitsAnyKey(t *testing.T) {
	full := row(num(1), num(2), num(3))
	masked := row(num(1), hidden(), num(3))
	absent := row(num(1), num(2), missing())
	for _, c := range []struct {
		key                  int
		full, masked, absent fits
	}{
		{math.MinInt, allModes, lateModes, lastMode}, {-1, allModes, lateModes, lastMode}, {0, allModes, lateModes, lastMode},
		{1, allModes, lateModes, lastMode}, {2, allModes, noMode, lastMode}, {3, allModes, noMode, noMode},
		{4, allModes, noMode, noMode}, {math.MaxInt, allModes, noMode, noMode},
	} {
		s := one(c.key, ki, ki, ki)
		expectFits(t, s, 0, full, c.full)
		expectFits(t, s, 0, masked, c.masked)
		expectFits(t, s, 0, absent, c.absent)
	}
	expectFits(t, one(0, ki), 0, row(hidden()), lateModes)
	expectFits(t, one(-1, ki), 0, row(missing()), lastMode)
	for _, key := range []int{-1, 0, 1} {
		expectFits(t, one(key), 0, row(), allModes)
		expectFits(t, one(key), 0, row(missing()), noMode)
	}
	wide := one(19, slices.Repeat([]int{ki}, 20)...)
	long := row(slices.Repeat([]api.Value{num(1)}, 20)...)
	expectFits(t, wide, 0, long, allModes)
	long[19] = hidden()
	expectFits(t, wide, 0, long, lateModes)
	long[18] = hidden()
	expectFits(t, wide, 0, long, noMode)
}

// cells are values of all kinds, and some that are not valid.
func cells() []api.Value {
	return []api.Value{
		missing(), hidden(), no(), yes(), num(0), num(1), num(math.MinInt64), num(math.MaxInt64),
		text(""), text("a"), text(strings.Repeat("\xff", 64)), {},
		{Kind: api.KindMissing, Int: 1}, {Kind: api.KindMissing, Text: "a"}, {Kind: api.KindHidden, Int: 1}, {Kind: api.KindHidden, Text: "a"},
		{Kind: kb, Int: 2}, {Kind: kb, Int: -1}, {Kind: kb, Text: "a"}, {Kind: ki, Text: "a"}, {Kind: kt, Int: 1}, text(strings.Repeat("a", 65)),
		{Kind: 6}, {Kind: -1}, {Kind: math.MaxInt},
	}
}

// valid is how many of the cells are valid: these stand first.
const valid = 11

// P7.3 and P7.5: each cell in columns of all kinds, in the key and outside of it. The value of the column's own
// kind comes first, also where that is Hidden or Missing.
func TestFitsEveryCell(t *testing.T) {
	for _, kind := range []int{math.MinInt, -1, 0, 1, 2, 3, 4, 5, 6, math.MaxInt} {
		for i, cell := range cells() {
			inKey, outside := noMode, noMode
			if i < valid {
				switch {
				case cell.Kind == kind:
					inKey, outside = allModes, allModes
				case cell.Kind == api.KindHidden:
					outside = lateModes
				case cell.Kind == api.KindMissing:
					outside = lastMode
				}
			}
			expectFits(t, one(1, kind, ki), 0, row(cell, num(1)), inKey)
			expectFits(t, one(2, ki, kind), 0, row(num(1), cell), inKey)
			expectFits(t, one(1, ki, kind), 0, row(num(1), cell), outside)
			expectFits(t, one(1, ki, kind, ki), 0, row(num(1), cell, num(2)), outside)
		}
	}
}

// P7.3 and P7.4: random rows. Each cell says in which modes it fits, and the row fits where all of them do; so
// what fits in a mode fits in the next one.
func TestFitsRandom(t *testing.T) {
	random := rand.New(rand.NewSource(7))
	all := cells()
	counts := map[fits]int{}
	for range 20000 {
		kinds := make([]int, random.Intn(4))
		for i := range kinds {
			kinds[i] = 1 + random.Intn(5)
		}
		key := random.Intn(6) - 1
		want := allModes
		r := make(api.Row, len(kinds))
		for i, kind := range kinds {
			cell := all[random.Intn(valid)]
			for random.Intn(4) > 0 && cell.Kind != kind && cell.Kind > api.KindHidden {
				cell = all[random.Intn(valid)]
			}
			r[i] = cell
			own := cell.Kind == kind
			want[0] = want[0] && own
			want[1] = want[1] && (own || i >= key && cell == hidden())
			want[2] = want[2] && (own || i >= key && (cell == hidden() || cell == missing()))
		}
		s := one(key, kinds...)
		expectFits(t, s, 0, r, want)
		for mode := api.ModeServer; mode < api.ModeLocal; mode++ {
			if schema.Fits(s, 0, r, mode) && !schema.Fits(s, 0, r, mode+1) {
				t.Errorf("%v fits %v in mode %d, and not in the next one", r, s, mode)
			}
		}
		counts[want]++
	}
	if len(counts) != 4 || counts[noMode] == 20000 {
		t.Errorf("the rows are no good ones: %v", counts)
	}
}

// R2: results share no memory with arguments and with other results.
func TestMemory(t *testing.T) {
	s := shop()
	r := row(num(1), text("a"), num(2), yes())
	key, again := schema.Key(s, 2, r), schema.Key(s, 2, r)
	kinds, keyKinds := schema.Kinds(s, 2), schema.KeyKinds(s, 2)
	for i := range key[:cap(key)] {
		key[:cap(key)][i] = hidden()
	}
	for i := range kinds[:cap(kinds)] {
		kinds[:cap(kinds)][i] = 99
	}
	if !slices.Equal(again, r[:3]) || !slices.Equal(r, row(num(1), text("a"), num(2), yes())) {
		t.Errorf("Key shares memory: %v, %v", again, r)
	}
	if !slices.Equal(keyKinds, []int{ki, kt, ki}) || !slices.Equal(schema.Kinds(s, 2), []int{ki, kt, ki, kb}) || !reflect.DeepEqual(s, shop()) {
		t.Errorf("Kinds shares memory: %v, %v", keyKinds, s)
	}
	for i := range keyKinds[:cap(keyKinds)] {
		keyKinds[:cap(keyKinds)][i] = 99
	}
	if !slices.Equal(schema.KeyKinds(s, 2), []int{ki, kt, ki}) || !slices.Equal(schema.Kinds(s, 2), []int{ki, kt, ki, kb}) {
		t.Error("KeyKinds shares memory")
	}
	whole := schema.Key(one(9, ki, ki, ki, ki), 0, r)
	for i := range whole {
		whole[i] = hidden()
	}
	none := schema.Key(one(0, ki), 0, r)
	_ = append(none, hidden())
	if !slices.Equal(r, row(num(1), text("a"), num(2), yes())) {
		t.Errorf("Key shares memory: %v", r)
	}
}

// R2: the arguments stay as they are, unused capacity included, and nothing of them is kept.
func TestArgumentsStay(t *testing.T) {
	build := func() (api.Schema, api.Row) {
		s := shop()
		s.Tables[2].Checks = []api.Predicate{rising(), always(), {}}[:2]
		s.Tables[1].Columns = s.Tables[1].Columns[:2]
		s.Tables[1].References = s.Tables[1].References[:0]
		s.Tables = append(s.Tables, api.Table{Name: "rest"})[:3]
		return s, row(num(1), text("a"), num(2), yes(), num(9))[:4]
	}
	s, r := build()
	run := func(s api.Schema, r api.Row) []any {
		return []any{
			schema.Check(s), schema.Find(s, "sales"), schema.Kinds(s, 2), schema.KeyKinds(s, 2), schema.Key(s, 2, r),
			schema.Fits(s, 2, r, api.ModeServer), schema.Fits(s, 2, r, api.ModeLocal),
		}
	}
	first := run(s, r)
	wantS, wantR := build()
	if !reflect.DeepEqual(s, wantS) || !reflect.DeepEqual(s.Tables[:4], wantS.Tables[:4]) || !slices.Equal(r[:5], wantR[:5]) {
		t.Error("an argument has changed")
	}
	if !reflect.DeepEqual(s.Tables[2].Checks[:3], wantS.Tables[2].Checks[:3]) || !reflect.DeepEqual(s.Tables[1].Columns[:3], wantS.Tables[1].Columns[:3]) || !reflect.DeepEqual(s.Tables[1].References[:1], wantS.Tables[1].References[:1]) {
		t.Error("unused capacity of an argument has changed")
	}
	s.Tables[2].Name = "other"
	s.Tables[2].Columns[0].Kind = kb
	r[0] = hidden()
	if again := run(build()); !reflect.DeepEqual(first, again) || first[0] != api.OK || first[5] != true {
		t.Errorf("the results were %v, and are now %v", first, again)
	}
}
