package codec_test

import (
	"bytes"
	"math"
	"slices"
	"strings"
	"testing"

	"partsync/api"
	"partsync/codec"
)

func missing() api.Value      { return api.Value{Kind: api.KindMissing} }
func hidden() api.Value       { return api.Value{Kind: api.KindHidden} }
func no() api.Value           { return api.Value{Kind: api.KindBool} }
func yes() api.Value          { return api.Value{Kind: api.KindBool, Int: 1} }
func num(n int64) api.Value   { return api.Value{Kind: api.KindInt, Int: n} }
func text(s string) api.Value { return api.Value{Kind: api.KindText, Text: s} }

// row returns a row that is not nil, even if it has no cells.
func row(cells ...api.Value) api.Row { return append(api.Row{}, cells...) }

func repeat(s string, n int) string { return strings.Repeat(s, n) }

// high returns n bytes 128, and behind them those of last.
func high(n int, last ...byte) []byte {
	return append(bytes.Repeat([]byte{128}, n), last...)
}

type uintCase struct {
	n    uint64
	want []byte
}

func uintCases() []uintCase {
	return []uintCase{
		{0, []byte{0}},
		{1, []byte{1}},
		{127, []byte{127}},
		{128, []byte{128, 1}},
		{300, []byte{172, 2}},
		{1<<14 - 1, []byte{255, 127}},
		{1 << 14, []byte{128, 128, 1}},
		{1<<63 - 1, []byte{255, 255, 255, 255, 255, 255, 255, 255, 127}},
		{1 << 63, high(9, 1)},
		{math.MaxUint64, []byte{255, 255, 255, 255, 255, 255, 255, 255, 255, 1}},
	}
}

type intCase struct {
	n    int64
	want []byte
}

func intCases() []intCase {
	return []intCase{
		{0, []byte{0}},
		{-1, []byte{1}},
		{1, []byte{2}},
		{-2, []byte{3}},
		{63, []byte{126}},
		{-64, []byte{127}},
		{64, []byte{128, 1}},
		{-65, []byte{129, 1}},
		{1 << 62, high(9, 1)},
		{math.MaxInt64, []byte{254, 255, 255, 255, 255, 255, 255, 255, 255, 1}},
		{math.MinInt64, []byte{255, 255, 255, 255, 255, 255, 255, 255, 255, 1}},
	}
}

type textCase struct {
	s    string
	want []byte
}

func textCases() []textCase {
	long := repeat("é", 100)
	return []textCase{
		{"", []byte{0}},
		{"a", []byte{1, 97}},
		{"abc", []byte{3, 97, 98, 99}},
		{"\x00\xff", []byte{2, 0, 255}},
		{"é", []byte{2, 0xc3, 0xa9}},
		{repeat("x", 64), append([]byte{64}, repeat("x", 64)...)},
		{repeat("x", 127), append([]byte{127}, repeat("x", 127)...)},
		{repeat("x", 128), append([]byte{128, 1}, repeat("x", 128)...)},
		{long, append([]byte{200, 1}, long...)},
	}
}

type valueCase struct {
	v    api.Value
	want []byte
}

func valueCases() []valueCase {
	return []valueCase{
		{missing(), []byte{1}},
		{hidden(), []byte{2}},
		{no(), []byte{3, 0}},
		{yes(), []byte{3, 1}},
		{num(0), []byte{4, 0}},
		{num(-1), []byte{4, 1}},
		{num(64), []byte{4, 128, 1}},
		{num(math.MinInt64), []byte{4, 255, 255, 255, 255, 255, 255, 255, 255, 255, 1}},
		{text(""), []byte{5, 0}},
		{text("a"), []byte{5, 1, 97}},
		{text("\xff\x00"), []byte{5, 2, 255, 0}},
		{text(repeat("z", 64)), append([]byte{5, 64}, repeat("z", 64)...)},
	}
}

// invalidValues have an encoding only if someone forgets to look at them.
func invalidValues() []api.Value {
	return []api.Value{
		{},
		{Kind: 6},
		{Kind: -1},
		{Kind: 256 + api.KindInt},
		{Kind: api.KindMissing, Int: 1},
		{Kind: api.KindHidden, Text: "a"},
		{Kind: api.KindBool, Int: 2},
		{Kind: api.KindBool, Int: -1},
		{Kind: api.KindInt, Text: "a"},
		{Kind: api.KindText, Int: 1},
		text(repeat("a", 65)),
	}
}

type rowCase struct {
	r    api.Row
	want []byte
}

func rowCases() []rowCase {
	full := make(api.Row, 12)
	for i := range full {
		full[i] = missing()
	}
	return []rowCase{
		{nil, []byte{0}},
		{row(), []byte{0}},
		{row(missing()), []byte{1, 1}},
		{row(yes(), text("a")), []byte{2, 3, 1, 5, 1, 97}},
		{row(missing(), hidden(), no(), num(-3), text("")), []byte{5, 1, 2, 3, 0, 4, 5, 5, 0}},
		{full, []byte{12, 1, 1, 1, 1, 1, 1, 1, 1, 1, 1, 1, 1}},
	}
}

// fronts are bytes that stand before an encoding.
func fronts() [][]byte {
	return [][]byte{nil, {}, {7}, {128, 0}, bytes.Repeat([]byte{255}, 20)}
}

// check compares what an Append function made of front with front and the encoding.
func check(t *testing.T, name string, of any, front, got, want []byte) {
	t.Helper()
	if !bytes.Equal(got, slices.Concat(front, want)) {
		t.Errorf("%s of %v and %#v = %v, want %v behind it", name, front, of, got, want)
	}
}

// P2.1
func TestAppendNumbersAndTexts(t *testing.T) {
	for _, front := range fronts() {
		for _, c := range uintCases() {
			check(t, "AppendUint", c.n, front, codec.AppendUint(front, c.n), c.want)
		}
		for _, c := range intCases() {
			check(t, "AppendInt", c.n, front, codec.AppendInt(front, c.n), c.want)
		}
		for _, c := range textCases() {
			check(t, "AppendText", c.s, front, codec.AppendText(front, c.s), c.want)
		}
	}
}

// P2.1: each number takes as few groups of seven bits as hold it.
func TestUintUsesFewestBytes(t *testing.T) {
	for bits := 1; bits <= 64; bits++ {
		least, greatest := uint64(1)<<(bits-1), uint64(math.MaxUint64)>>(64-bits)
		want := (bits + 6) / 7
		for _, n := range []uint64{least, greatest} {
			b := codec.AppendUint(nil, n)
			if len(b) != want {
				t.Errorf("AppendUint of %d = %v, want %d bytes", n, b, want)
			}
		}
	}
}

// P2.1: a text may be longer than any value.
func TestAppendLongText(t *testing.T) {
	s := repeat("0123456789", 100000)
	b := codec.AppendText([]byte{9}, s)
	if len(b) != 1+3+len(s) || !bytes.Equal(b[:4], []byte{9, 192, 132, 61}) || string(b[4:]) != s {
		t.Errorf("AppendText of %d bytes makes %d, from %v", len(s), len(b), b[:4])
	}
}

// P2.2
func TestAppendValue(t *testing.T) {
	for _, front := range fronts() {
		for _, c := range valueCases() {
			got, errno := codec.AppendValue(front, c.v)
			check(t, "AppendValue", c.v, front, got, c.want)
			if errno != api.OK {
				t.Errorf("AppendValue of %#v: error %d", c.v, errno)
			}
		}
		for _, v := range invalidValues() {
			got, errno := codec.AppendValue(front, v)
			if len(got) != 0 || errno != api.ErrValue {
				t.Errorf("AppendValue of %#v = %v, %d, want nothing and ErrValue", v, got, errno)
			}
		}
	}
}

// P2.2
func TestAppendRow(t *testing.T) {
	for _, front := range fronts() {
		for _, c := range rowCases() {
			got, errno := codec.AppendRow(front, c.r)
			check(t, "AppendRow", c.r, front, got, c.want)
			if errno != api.OK {
				t.Errorf("AppendRow of %#v: error %d", c.r, errno)
			}
		}
	}
}

// wrongRow is a row that has no encoding.
type wrongRow struct {
	r    api.Row
	want api.Errno
}

func wrongRows() []wrongRow {
	wide := make(api.Row, 13)
	for i := range wide {
		wide[i] = yes()
	}
	rows := []wrongRow{
		{wide, api.ErrLimit},
		{make(api.Row, 13), api.ErrLimit},
		{make(api.Row, 1000), api.ErrLimit},
		{make(api.Row, 12), api.ErrValue},
	}
	for _, v := range invalidValues() {
		rows = append(rows, wrongRow{row(v), api.ErrValue}, wrongRow{row(num(1), v), api.ErrValue}, wrongRow{row(v, num(1)), api.ErrValue})
	}
	return rows
}

// P2.2
func TestAppendWrongRow(t *testing.T) {
	for _, c := range wrongRows() {
		got, errno := codec.AppendRow([]byte{1}, c.r)
		if len(got) != 0 || errno != c.want {
			t.Errorf("AppendRow of %#v = %v, %d, want nothing and %d", c.r, got, errno, c.want)
		}
	}
}

// P2.7
func TestSize(t *testing.T) {
	for _, c := range valueCases() {
		if got := codec.Size(c.v); got != len(c.want) {
			t.Errorf("Size of %#v = %d, want %d", c.v, got, len(c.want))
		}
	}
	for _, v := range invalidValues() {
		if got := codec.Size(v); got != 0 {
			t.Errorf("Size of %#v = %d, want 0", v, got)
		}
	}
	for _, c := range rowCases() {
		if got := codec.RowSize(c.r); got != len(c.want) {
			t.Errorf("RowSize of %#v = %d, want %d", c.r, got, len(c.want))
		}
	}
	for _, c := range wrongRows() {
		if got := codec.RowSize(c.r); got != 0 {
			t.Errorf("RowSize of %#v = %d, want 0", c.r, got)
		}
	}
}

// appended calls each Append function that adds something to b.
func appended(b []byte) [][]byte {
	v, _ := codec.AppendValue(b, text("a"))
	m, _ := codec.AppendValue(b, missing())
	r, _ := codec.AppendRow(b, row(yes(), num(5)))
	e, _ := codec.AppendRow(b, nil)
	return [][]byte{codec.AppendUint(b, 5), codec.AppendUint(b, 500), codec.AppendInt(b, 5), codec.AppendText(b, ""), codec.AppendText(b, "abc"), v, m, r, e}
}

// P2.1, P2.2 and R2: neither the bytes nor the unused capacity of b change, and the results are memory of their own.
func TestAppendUsesNewMemory(t *testing.T) {
	for n := range 4 {
		room := []byte{1, 2, 3, 4, 5, 6, 7, 8, 9, 10, 11, 12}
		b := room[:n]
		results := appended(b)
		for i, got := range results {
			if len(got) <= n {
				t.Errorf("n %d, result %d: %v, want more than %d bytes", n, i, got, n)
			}
			got = got[:cap(got)]
			for j := range got {
				got[j] = byte(200 + i)
			}
		}
		if !bytes.Equal(room, []byte{1, 2, 3, 4, 5, 6, 7, 8, 9, 10, 11, 12}) {
			t.Errorf("n %d: the argument's memory became %v", n, room)
		}
		for i, got := range results {
			if len(got) > 0 && (got[0] != byte(200+i) || got[len(got)-1] != byte(200+i)) {
				t.Errorf("n %d: result %d shares memory with another one: %v", n, i, got)
			}
		}
	}
}

// P2.2 and R2
func TestAppendKeepsItsRow(t *testing.T) {
	r := row(yes(), text("a"))
	if _, errno := codec.AppendRow(nil, r); errno != api.OK || !slices.Equal(r, row(yes(), text("a"))) {
		t.Errorf("AppendRow: error %d, and its row became %#v", errno, r)
	}
}
