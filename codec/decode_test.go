package codec_test

import (
	"bytes"
	"math"
	"slices"
	"testing"

	"partsync/api"
	"partsync/codec"
)

// reading is what a reader returned. Of the fields for what was read, each reader uses its own one.
type reading struct {
	Uint  uint64
	Int   int64
	Text  string
	Value api.Value
	Row   api.Row
	next  int
	errno api.Errno
}

func (r reading) equal(s reading) bool {
	return r.Uint == s.Uint && r.Int == s.Int && r.Text == s.Text && r.Value == s.Value && slices.Equal(r.Row, s.Row) && r.next == s.next && r.errno == s.errno
}

type reader struct {
	name string
	read func(b []byte, at int) reading
}

func readUint(b []byte, at int) reading {
	n, next, errno := codec.Uint(b, at)
	return reading{Uint: n, next: next, errno: errno}
}

func readInt(b []byte, at int) reading {
	n, next, errno := codec.Int(b, at)
	return reading{Int: n, next: next, errno: errno}
}

func readText(b []byte, at, most int) reading {
	s, next, errno := codec.Text(b, at, most)
	return reading{Text: s, next: next, errno: errno}
}

func readAnyText(b []byte, at int) reading {
	return readText(b, at, math.MaxInt)
}

func readValue(b []byte, at int) reading {
	v, next, errno := codec.Value(b, at)
	return reading{Value: v, next: next, errno: errno}
}

func readRow(b []byte, at int) reading {
	r, next, errno := codec.Row(b, at)
	return reading{Row: r, next: next, errno: errno}
}

func readers() []reader {
	return []reader{{"Uint", readUint}, {"Int", readInt}, {"Text", readAnyText}, {"Value", readValue}, {"Row", readRow}}
}

// sample is an encoding and what the reader reads from it, without the index behind it.
type sample struct {
	reader
	b    []byte
	want reading
}

func samples() []sample {
	var all []sample
	for _, c := range uintCases() {
		all = append(all, sample{reader{"Uint", readUint}, c.want, reading{Uint: c.n}})
	}
	for _, c := range intCases() {
		all = append(all, sample{reader{"Int", readInt}, c.want, reading{Int: c.n}})
	}
	for _, c := range textCases() {
		all = append(all, sample{reader{"Text", readAnyText}, c.want, reading{Text: c.s}})
		exactly := func(b []byte, at int) reading { return readText(b, at, len(c.s)) }
		all = append(all, sample{reader{"Text with its own length", exactly}, c.want, reading{Text: c.s}})
	}
	for _, c := range valueCases() {
		all = append(all, sample{reader{"Value", readValue}, c.want, reading{Value: c.v}})
	}
	for _, c := range rowCases() {
		all = append(all, sample{reader{"Row", readRow}, c.want, reading{Row: c.r}})
	}
	return all
}

// P2.3 to P2.6 and P2.8: what stands in the table is read back, whatever is before and behind it.
func TestReadBack(t *testing.T) {
	for _, s := range samples() {
		for _, front := range fronts() {
			for _, behind := range fronts() {
				b := slices.Concat(front, s.b, behind)
				want := s.want
				want.next = len(front) + len(s.b)
				if got := s.read(b, len(front)); !got.equal(want) {
					t.Errorf("%s of %v at %d = %#v, want %#v", s.name, b, len(front), got, want)
				}
			}
		}
	}
}

// P2.8
func TestPrefixIsTruncated(t *testing.T) {
	for _, s := range samples() {
		for n := range s.b {
			b := append([]byte{9}, s.b[:n]...)
			if got := s.read(b, 1); !got.equal(reading{errno: api.ErrTruncated}) {
				t.Errorf("%s of %v at 1 = %#v, want ErrTruncated", s.name, b, got)
			}
		}
	}
}

// P2.3 to P2.6: no index beyond the bytes is read, nor one before them, and this is seen before all else.
func TestIndexOutOfRange(t *testing.T) {
	for _, r := range readers() {
		for _, b := range [][]byte{nil, {}, {0}, {3, 1, 7}, {128, 0}} {
			for _, at := range []int{-1, math.MinInt, len(b) + 1, len(b) + 100, math.MaxInt} {
				if got := r.read(b, at); !got.equal(reading{errno: api.ErrArg}) {
					t.Errorf("%s of %v at %d = %#v, want ErrArg", r.name, b, at, got)
				}
			}
			if got := r.read(b, len(b)); !got.equal(reading{errno: api.ErrTruncated}) {
				t.Errorf("%s of %v at its end = %#v, want ErrTruncated", r.name, b, got)
			}
		}
	}
}

// wrong is bytes that are no encoding.
type wrong struct {
	b    []byte
	want api.Errno
}

func wrongNumbers() []wrong {
	return []wrong{
		{high(1), api.ErrTruncated},
		{high(9), api.ErrTruncated},
		{bytes.Repeat([]byte{255}, 9), api.ErrTruncated},
		{high(10), api.ErrEncoding},
		{high(30), api.ErrEncoding},
		{high(10, 0), api.ErrEncoding},
		{high(10, 1), api.ErrEncoding},
		{bytes.Repeat([]byte{255}, 10), api.ErrEncoding},
		{high(1, 0), api.ErrEncoding},
		{high(1, 0, 1), api.ErrEncoding},
		{[]byte{255, 0}, api.ErrEncoding},
		{[]byte{129, 128, 0}, api.ErrEncoding},
		{high(8, 0), api.ErrEncoding},
		{high(9, 0), api.ErrEncoding},
		{high(9, 2), api.ErrEncoding},
		{high(9, 3), api.ErrEncoding},
		{high(9, 127), api.ErrEncoding},
	}
}

// checkWrong reads each case at the index behind a byte that must not be looked at.
func checkWrong(t *testing.T, r reader, cases []wrong) {
	t.Helper()
	for _, c := range cases {
		if got := r.read(append([]byte{128}, c.b...), 1); !got.equal(reading{errno: c.want}) {
			t.Errorf("%s of %v = %#v, want error %d", r.name, c.b, got, c.want)
		}
	}
}

// P2.3, and the errors of Uint in P2.4 and P2.6
func TestWrongNumbers(t *testing.T) {
	for _, r := range readers() {
		if r.name != "Value" {
			checkWrong(t, r, wrongNumbers())
		}
	}
}

// P2.4
func TestWrongTexts(t *testing.T) {
	longest := []byte{255, 255, 255, 255, 255, 255, 255, 255, 127}
	for _, c := range []struct {
		b        []byte
		at, most int
		want     api.Errno
	}{
		{[]byte{1, 97}, 0, -1, api.ErrArg},
		{[]byte{0}, 0, -1, api.ErrArg},
		{[]byte{0}, 0, math.MinInt, api.ErrArg},
		{nil, 0, -1, api.ErrArg},
		{high(1, 0), 0, -1, api.ErrArg},
		{[]byte{0}, 2, -1, api.ErrArg},
		{high(1, 0), 0, 0, api.ErrEncoding},
		{high(1), 0, 0, api.ErrTruncated},
		{[]byte{1, 97}, 0, 0, api.ErrLimit},
		{[]byte{3, 97, 98, 99}, 0, 2, api.ErrLimit},
		{[]byte{3}, 0, 2, api.ErrLimit},
		{[]byte{3}, 0, 3, api.ErrTruncated},
		{[]byte{3, 97, 98}, 0, 3, api.ErrTruncated},
		{[]byte{3, 97, 98}, 0, math.MaxInt, api.ErrTruncated},
		{[]byte{97, 98, 3, 97, 98}, 2, 3, api.ErrTruncated},
		{longest, 0, math.MaxInt, api.ErrTruncated},
		{longest, 0, math.MaxInt - 1, api.ErrLimit},
		{high(9, 1), 0, math.MaxInt, api.ErrLimit},
		{bytes.Repeat([]byte{255}, 9), 0, math.MaxInt, api.ErrTruncated},
		{append(bytes.Repeat([]byte{255}, 9), 1), 0, math.MaxInt, api.ErrLimit},
	} {
		if got := readText(c.b, c.at, c.most); !got.equal(reading{errno: c.want}) {
			t.Errorf("Text of %v at %d, at most %d = %#v, want error %d", c.b, c.at, c.most, got, c.want)
		}
	}
}

func wrongValues() []wrong {
	cases := []wrong{
		{[]byte{0}, api.ErrEncoding},
		{[]byte{6}, api.ErrEncoding},
		{[]byte{6, 0}, api.ErrEncoding},
		{[]byte{128 + 4, 0}, api.ErrEncoding},
		{[]byte{255}, api.ErrEncoding},
		{[]byte{3}, api.ErrTruncated},
		{[]byte{3, 2}, api.ErrEncoding},
		{[]byte{3, 129}, api.ErrEncoding},
		{[]byte{3, 255}, api.ErrEncoding},
		{[]byte{4}, api.ErrTruncated},
		{[]byte{5}, api.ErrTruncated},
		{[]byte{5, 2, 97}, api.ErrTruncated},
		{[]byte{5, 64}, api.ErrTruncated},
		{[]byte{5, 65}, api.ErrLimit},
		{append([]byte{5, 65}, repeat("a", 65)...), api.ErrLimit},
		{append([]byte{5}, append(bytes.Repeat([]byte{255}, 9), 1)...), api.ErrLimit},
	}
	for _, c := range wrongNumbers() {
		cases = append(cases, wrong{append([]byte{4}, c.b...), c.want}, wrong{append([]byte{5}, c.b...), c.want})
	}
	return cases
}

// P2.5
func TestWrongValues(t *testing.T) {
	checkWrong(t, reader{"Value", readValue}, wrongValues())
}

// P2.6
func TestWrongRows(t *testing.T) {
	r := reader{"Row", readRow}
	checkWrong(t, r, []wrong{
		{[]byte{13}, api.ErrLimit},
		{[]byte{13, 1, 1, 1, 1, 1, 1, 1, 1, 1, 1, 1, 1, 1}, api.ErrLimit},
		{[]byte{128, 1}, api.ErrLimit},
		{append(bytes.Repeat([]byte{255}, 9), 1), api.ErrLimit},
		{[]byte{12}, api.ErrTruncated},
		{[]byte{2, 1}, api.ErrTruncated},
		{[]byte{2, 9, 3, 2}, api.ErrEncoding},
		{[]byte{2, 5, 65, 9}, api.ErrLimit},
		{[]byte{2, 9, 5, 65}, api.ErrEncoding},
		{[]byte{3, 1, 5, 65}, api.ErrLimit},
	})
	for _, c := range wrongValues() {
		checkWrong(t, r, []wrong{{append([]byte{1}, c.b...), c.want}, {append([]byte{3, 1, 3, 1}, c.b...), c.want}})
	}
}

// written returns the encoding of what the reader of that name read.
func written(name string, r reading) ([]byte, api.Errno) {
	switch name {
	case "Uint":
		return codec.AppendUint(nil, r.Uint), api.OK
	case "Int":
		return codec.AppendInt(nil, r.Int), api.OK
	case "Text":
		return codec.AppendText(nil, r.Text), api.OK
	case "Value":
		return codec.AppendValue(nil, r.Value)
	}
	return codec.AppendRow(nil, r.Row)
}

// checkOne checks that b has at most one meaning: what was read from it is written as the bytes that were read,
// an error leaves nothing behind, and only ErrTruncated may go away if more bytes follow.
func checkOne(t *testing.T, r reader, b []byte) {
	t.Helper()
	got := r.read(b, 0)
	if got.errno != api.OK {
		if !got.equal(reading{errno: got.errno}) {
			t.Errorf("%s of %v = %#v, want nothing beside the error", r.name, b, got)
		}
		if longer := r.read(append(slices.Clip(b), 1, 1), 0); got.errno != api.ErrTruncated && !longer.equal(got) {
			t.Errorf("%s of %v = %#v, but with two bytes more %#v", r.name, b, got, longer)
		}
		return
	}
	again, errno := written(r.name, got)
	if got.next < 1 || got.next > len(b) || errno != api.OK || !bytes.Equal(again, b[:got.next]) {
		t.Errorf("%s of %v = %#v, which is written as %v, error %d", r.name, b, got, again, errno)
	}
}

// P2.8: all strings of up to four bytes that mean something to some reader.
func TestOneEncoding(t *testing.T) {
	bytesOf := []byte{0, 1, 2, 3, 4, 5, 6, 12, 13, 64, 65, 97, 127, 128, 129, 255}
	all := [][]byte{{}}
	for from := 0; from < len(all); from++ {
		b := all[from]
		for _, r := range readers() {
			checkOne(t, r, b)
		}
		for _, c := range bytesOf {
			if len(b) < 4 {
				all = append(all, append(slices.Clip(b), c))
			}
		}
	}
}

// P2.3 to P2.6, R2 and R5: reading changes nothing and shares nothing.
func TestReadSharesNothing(t *testing.T) {
	room := []byte{2, 3, 1, 5, 2, 97, 98, 77, 78}
	b := room[:7]
	first, _, _ := codec.Row(b, 0)
	second, next, errno := codec.Row(b, 0)
	v, _, _ := codec.Value(b, 3)
	s, _, _ := codec.Text(b, 4, 2)
	if !bytes.Equal(room, []byte{2, 3, 1, 5, 2, 97, 98, 77, 78}) {
		t.Errorf("reading changed the bytes to %v", room)
	}
	clear(room)
	for i := range first {
		first[i] = missing()
	}
	if !slices.Equal(second, row(yes(), text("ab"))) || next != 7 || errno != api.OK || v != text("ab") || s != "ab" {
		t.Errorf("after a change elsewhere: Row %#v, %d, %d, Value %#v, Text %q", second, next, errno, v, s)
	}
}
