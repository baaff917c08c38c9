package interval_test

import (
	"math"
	"slices"
	"strings"
	"testing"

	"partsync/api"
	"partsync/interval"
	"partsync/value"
)

func missing() api.Value      { return api.Value{Kind: api.KindMissing} }
func hidden() api.Value       { return api.Value{Kind: api.KindHidden} }
func no() api.Value           { return api.Value{Kind: api.KindBool} }
func yes() api.Value          { return api.Value{Kind: api.KindBool, Int: 1} }
func num(n int64) api.Value   { return api.Value{Kind: api.KindInt, Int: n} }
func text(s string) api.Value { return api.Value{Kind: api.KindText, Text: s} }
func greatest() api.Value     { return text(repeat("\xff", 64)) }

func repeat(s string, n int) string { return strings.Repeat(s, n) }

func list(l ...api.Interval) []api.Interval { return l }

func span(from, to api.Value) api.Interval { return api.Interval{From: from, To: to} }

func ints(from, to int64) api.Interval { return span(num(from), num(to)) }

func open(from api.Value) api.Interval { return api.Interval{From: from, Open: true} }

// comb returns n intervals of two ints each, the first one from the number first on, and one from every fourth int on.
func comb(n int, first int64) []api.Interval {
	var l []api.Interval
	for i := range int64(n) {
		l = append(l, ints(first+4*i, first+4*i+2))
	}
	return l
}

// values lists valid values in strictly ascending order.
func values() []api.Value {
	return []api.Value{
		missing(), hidden(), no(), yes(),
		num(math.MinInt64), num(-1), num(0), num(1), num(math.MaxInt64 - 1), num(math.MaxInt64),
		text(""), text("\x00"), text("a"), text("a\x00"), text(repeat("a", 64)), text(repeat("a", 63) + "b"), text("b"),
		text(repeat("\xff", 63)), text(repeat("\xff", 63) + "\xfe"), greatest(),
	}
}

func invalidValues() []api.Value {
	return []api.Value{
		{},
		{Kind: -1},
		{Kind: 6},
		{Kind: math.MaxInt},
		{Kind: api.KindMissing, Int: 1},
		{Kind: api.KindHidden, Text: "a"},
		{Kind: api.KindBool, Int: 2},
		{Kind: api.KindInt, Text: "a"},
		{Kind: api.KindText, Int: 1},
		text(repeat("a", 65)),
		text(repeat("\xff", 65)),
	}
}

// wrongLists are not canonical.
func wrongLists() [][]api.Interval {
	wrong := [][]api.Interval{
		list(api.Interval{}),
		list(api.Interval{Open: true}),
		list(api.Interval{From: num(1)}),
		list(api.Interval{To: num(1)}),
		list(ints(2, 2)),
		list(ints(2, 1)),
		list(span(text("a"), num(1))),
		list(span(greatest(), greatest())),
		list(api.Interval{From: num(1), To: num(2), Open: true}),
		list(api.Interval{From: num(2), To: num(1), Open: true}),
		list(api.Interval{From: num(1), To: api.Value{Int: 1}, Open: true}),
		list(api.Interval{From: num(1), To: api.Value{Text: "a"}, Open: true}),
		list(ints(1, 2), ints(2, 3)),
		list(ints(1, 3), ints(2, 4)),
		list(ints(1, 9), ints(2, 3)),
		list(ints(1, 2), ints(1, 2)),
		list(ints(5, 6), ints(1, 2)),
		list(ints(1, 2), open(num(2))),
		list(ints(1, 3), open(num(2))),
		list(ints(1, 2), ints(3, 3)),
		list(ints(1, 2), ints(4, 3)),
		list(ints(2, 2), ints(3, 4)),
		list(ints(1, 2), ints(3, 4), ints(4, 5)),
		list(ints(1, 2), ints(2, 3), ints(4, 5)),
		list(open(num(1)), ints(3, 4)),
		list(open(num(1)), open(num(3))),
		list(open(num(1)), open(num(1))),
		list(open(num(9)), ints(1, 2)),
		list(ints(1, 2), open(num(5)), ints(7, 8)),
		comb(65, 0),
		append(comb(64, 0), open(num(1000))),
		comb(1000, 0),
	}
	for _, v := range invalidValues() {
		wrong = append(wrong, list(span(v, greatest())), list(span(missing(), v)), list(span(v, v)), list(open(v)), list(ints(1, 2), open(v)), list(span(v, num(1)), ints(2, 3)))
	}
	return wrong
}

// rightLists are canonical.
func rightLists() [][]api.Interval {
	right := [][]api.Interval{
		nil,
		{},
		list(ints(1, 2)),
		list(ints(math.MinInt64, math.MaxInt64)),
		list(ints(1, 2), ints(3, 4)),
		list(ints(1, 2), ints(3, 4), ints(9, 20)),
		list(ints(1, 2), open(num(3))),
		list(span(missing(), greatest())),
		list(span(missing(), hidden()), span(no(), yes()), open(greatest())),
		list(span(text("a"), text("a\x00")), open(text("b"))),
		comb(64, 0),
		append(comb(63, 0), open(num(1000))),
	}
	for _, v := range values() {
		right = append(right, list(open(v)))
	}
	return right
}

// check compares a result with the list that is wanted, or with the error if one is.
func check(t *testing.T, name string, of any, got []api.Interval, errno api.Errno, want []api.Interval, wantErrno api.Errno) {
	t.Helper()
	if !slices.Equal(got, want) || errno != wantErrno {
		t.Errorf("%s of %v = %v, %d, want %v, %d", name, of, got, errno, want, wantErrno)
	}
}

// P3.1
func TestValid(t *testing.T) {
	for _, l := range rightLists() {
		if !interval.Valid(l) {
			t.Errorf("Valid(%v) = false", l)
		}
	}
	for _, l := range wrongLists() {
		if interval.Valid(l) {
			t.Errorf("Valid(%v) = true", l)
		}
	}
}

// P3.2
func TestAll(t *testing.T) {
	check(t, "All", nil, interval.All(), api.OK, list(open(missing())), api.OK)
	for _, v := range values() {
		if !interval.Has(interval.All(), v) {
			t.Errorf("All does not contain %v", v)
		}
	}
}

// P3.2
func TestOne(t *testing.T) {
	for _, c := range []struct {
		v    api.Value
		want api.Interval
	}{
		{missing(), span(missing(), hidden())},
		{hidden(), span(hidden(), no())},
		{no(), span(no(), yes())},
		{yes(), span(yes(), num(math.MinInt64))},
		{num(7), ints(7, 8)},
		{num(math.MaxInt64), span(num(math.MaxInt64), text(""))},
		{text(""), span(text(""), text("\x00"))},
		{text("a"), span(text("a"), text("a\x00"))},
		{text("a" + repeat("\xff", 63)), span(text("a"+repeat("\xff", 63)), text("b"))},
		{text(repeat("\xff", 63)), span(text(repeat("\xff", 63)), text(repeat("\xff", 63)+"\x00"))},
		{greatest(), open(greatest())},
	} {
		got, errno := interval.One(c.v)
		check(t, "One", c.v, got, errno, list(c.want), api.OK)
	}
	for _, v := range invalidValues() {
		got, errno := interval.One(v)
		check(t, "One", v, got, errno, nil, api.ErrValue)
	}
}

// P3.2
func TestBetween(t *testing.T) {
	for i, from := range values() {
		for j, to := range values() {
			var want []api.Interval
			if i < j {
				want = list(span(from, to))
			}
			got, errno := interval.Between(from, to)
			check(t, "Between", []api.Value{from, to}, got, errno, want, api.OK)
		}
	}
	for _, v := range invalidValues() {
		for _, pair := range [][2]api.Value{{v, v}, {v, missing()}, {v, greatest()}, {missing(), v}, {greatest(), v}, {{}, v}} {
			got, errno := interval.Between(pair[0], pair[1])
			check(t, "Between", pair, got, errno, nil, api.ErrValue)
		}
	}
}

// P3.2
func TestFrom(t *testing.T) {
	for _, v := range values() {
		got, errno := interval.From(v)
		check(t, "From", v, got, errno, list(open(v)), api.OK)
	}
	for _, v := range invalidValues() {
		got, errno := interval.From(v)
		check(t, "From", v, got, errno, nil, api.ErrValue)
	}
}

// P3.2
func TestOfKind(t *testing.T) {
	for kind, want := range map[int]api.Interval{
		api.KindMissing: span(missing(), hidden()),
		api.KindHidden:  span(hidden(), no()),
		api.KindBool:    span(no(), num(math.MinInt64)),
		api.KindInt:     span(num(math.MinInt64), text("")),
		api.KindText:    open(text("")),
	} {
		got, errno := interval.OfKind(kind)
		check(t, "OfKind", kind, got, errno, list(want), api.OK)
	}
	for _, kind := range []int{0, 6, -1, 7, math.MinInt, math.MaxInt} {
		got, errno := interval.OfKind(kind)
		check(t, "OfKind", kind, got, errno, nil, api.ErrArg)
	}
}

// P3.2 and P3.3: the sets contain the values that they are named after, and no other ones.
func TestSetsAndTheirValues(t *testing.T) {
	all := values()
	for i, v := range all {
		one, _ := interval.One(v)
		from, _ := interval.From(v)
		between, _ := interval.Between(v, all[min(i+3, len(all)-1)])
		kind, _ := interval.OfKind(v.Kind)
		for j, w := range all {
			for name, c := range map[string]struct {
				l    []api.Interval
				want bool
			}{
				"One":     {one, i == j},
				"From":    {from, i <= j},
				"Between": {between, i <= j && j < min(i+3, len(all)-1)},
				"OfKind":  {kind, v.Kind == w.Kind},
			} {
				if got := interval.Has(c.l, w); got != c.want {
					t.Errorf("%s of %v: Has(%v, %v) = %v", name, v, c.l, w, got)
				}
			}
		}
	}
}

// P3.3
func TestHas(t *testing.T) {
	l := list(span(hidden(), no()), ints(1, 3), ints(5, 6), open(text("b")))
	for _, c := range []struct {
		v    api.Value
		want bool
	}{
		{missing(), false}, {hidden(), true}, {no(), false},
		{num(0), false}, {num(1), true}, {num(2), true}, {num(3), false}, {num(4), false}, {num(5), true}, {num(6), false},
		{text("a" + repeat("\xff", 63)), false}, {text("b"), true}, {text("c"), true}, {greatest(), true},
	} {
		if got := interval.Has(l, c.v); got != c.want {
			t.Errorf("Has(%v, %v) = %v", l, c.v, got)
		}
	}
	for _, v := range values() {
		if interval.Has(nil, v) || interval.Has(list(), v) {
			t.Errorf("the empty set has %v", v)
		}
	}
	for i, last := range comb(64, 0) {
		if !interval.Has(comb(64, 0), last.From) || interval.Has(comb(64, 0), last.To) {
			t.Errorf("Has is wrong about interval %d of 64", i)
		}
	}
}

// P3.3
func TestHasRefusesWhatIsNotValid(t *testing.T) {
	for _, v := range invalidValues() {
		for _, l := range append(rightLists(), list(open(v)), list(open(api.Value{})), list(span(api.Value{}, greatest()))) {
			if interval.Has(l, v) {
				t.Errorf("Has(%v, %v) = true, and the value is not valid", l, v)
			}
		}
	}
	for _, l := range wrongLists() {
		for _, v := range append(values(), num(2), num(3), num(4), num(5)) {
			if interval.Has(l, v) {
				t.Errorf("Has(%v, %v) = true, and the list is not canonical", l, v)
			}
		}
	}
}

// P3.6
func TestLeast(t *testing.T) {
	for _, l := range rightLists() {
		var want api.Value
		if len(l) > 0 {
			want = l[0].From
		}
		if got, ok := interval.Least(l); got != want || ok != (len(l) > 0) {
			t.Errorf("Least(%v) = %v, %v", l, got, ok)
		}
	}
	for _, l := range wrongLists() {
		if got, ok := interval.Least(l); got != (api.Value{}) || ok {
			t.Errorf("Least(%v) = %v, %v, and the list is not canonical", l, got, ok)
		}
	}
}

// smallLists returns every list of at most two intervals with bounds among a few values.
func smallLists() [][]api.Interval {
	bounds := []api.Value{{}, num(1), num(2), num(3), num(4), greatest()}
	var intervals []api.Interval
	for _, from := range bounds {
		for _, to := range bounds {
			intervals = append(intervals, span(from, to), api.Interval{From: from, To: to, Open: true})
		}
	}
	lists := [][]api.Interval{nil}
	for _, a := range intervals {
		lists = append(lists, list(a))
		for _, b := range intervals {
			lists = append(lists, list(a, b))
		}
	}
	return lists
}

// P3.1, P3.6 and P3.7: of the lists that contain the same values one is canonical, and it begins with the least of them.
func TestOneListForEachSet(t *testing.T) {
	points := []api.Value{num(0), num(1), num(2), num(3), num(4), text("a"), greatest()}
	seen := map[string][]api.Interval{}
	for _, l := range smallLists() {
		if !interval.Valid(l) {
			continue
		}
		contents := ""
		var least api.Value
		for _, v := range points {
			if interval.Has(l, v) {
				contents += "1"
			} else {
				contents += "0"
			}
			if interval.Has(l, v) && least == (api.Value{}) {
				least = v
			}
		}
		if other, ok := seen[contents]; ok {
			t.Errorf("%v and %v are both canonical, and contain the same values", l, other)
		}
		seen[contents] = l
		if v, ok := interval.Least(l); v != least || ok != (least != api.Value{}) || ok && value.Compare(v, l[0].From) != 0 {
			t.Errorf("Least(%v) = %v, %v, want %v", l, v, ok, least)
		}
	}
	// One empty list; 5 Open intervals and 10 with an end; 5 pairs with an end, and 10 of which the second one is Open.
	if len(seen) != 31 {
		t.Errorf("%d lists are canonical, want 31", len(seen))
	}
}
