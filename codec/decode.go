package codec

import "partsync/api"

// Uint reads at the index at what AppendUint writes; it returns the number and the index behind it.
func Uint(b []byte, at int) (n uint64, next int, errno api.Errno) {
	defer func() { errno = cause(recover()) }()
	d := start(b, at)
	n = d.uint()
	return n, d.at, api.OK
}

// Int reads at the index at what AppendInt writes; it returns the number and the index behind it.
func Int(b []byte, at int) (n int64, next int, errno api.Errno) {
	defer func() { errno = cause(recover()) }()
	d := start(b, at)
	n = d.int()
	return n, d.at, api.OK
}

// Text reads at the index at what AppendText writes of a text of at most most bytes; it returns the text and the index behind it.
func Text(b []byte, at, most int) (s string, next int, errno api.Errno) {
	defer func() { errno = cause(recover()) }()
	d := start(b, at)
	require(most >= 0, api.ErrArg)
	s = d.text(most)
	return s, d.at, api.OK
}

// Value reads at the index at what AppendValue writes; it returns the value and the index behind it.
func Value(b []byte, at int) (v api.Value, next int, errno api.Errno) {
	defer func() { errno = cause(recover()) }()
	d := start(b, at)
	v = d.value()
	return v, d.at, api.OK
}

// Row reads at the index at what AppendRow writes; it returns the row and the index behind it.
func Row(b []byte, at int) (r api.Row, next int, errno api.Errno) {
	defer func() { errno = cause(recover()) }()
	d := start(b, at)
	r = d.row()
	return r, d.at, api.OK
}

// decoder reads bytes from the index at, and moves it. Its methods stop at the first error by a panic with
// the error code; so the results of the exported functions are still zero when these recover it.
type decoder struct {
	b  []byte
	at int
}

// start returns a decoder at an index that is within b or at its end.
func start(b []byte, at int) *decoder {
	require(at >= 0 && at <= len(b), api.ErrArg)
	return &decoder{b: b, at: at}
}

// require stops the decoder with the error code unless ok holds.
func require(ok bool, errno api.Errno) {
	if !ok {
		panic(errno)
	}
}

// cause returns the error code with which the decoder stopped, given what was recovered; OK if it did not stop.
// Nothing else panics here: every index is checked before it is used.
func cause(recovered any) api.Errno {
	errno, _ := recovered.(api.Errno)
	return errno
}

func (d *decoder) byte() byte {
	require(d.at < len(d.b), api.ErrTruncated)
	c := d.b[d.at]
	d.at++
	return c
}

func (d *decoder) uint() uint64 {
	n := uint64(0)
	for shift := 0; ; shift += 7 {
		c := d.byte()
		// Of 64 bits one is left for the tenth byte, and none for an eleventh one.
		require(shift < 63 || c <= 1, api.ErrEncoding)
		n |= uint64(c&^more) << shift
		if c < more {
			// A last byte 0 would be a second encoding of a number that is shorter without it.
			require(c > 0 || shift == 0, api.ErrEncoding)
			return n
		}
	}
}

func (d *decoder) int() int64 {
	n := d.uint()
	return int64(n>>1) ^ -int64(n&1)
}

func (d *decoder) text(most int) string {
	n := d.uint()
	require(n <= uint64(most), api.ErrLimit)
	require(n <= uint64(len(d.b)-d.at), api.ErrTruncated)
	from := d.at
	d.at += int(n)
	return string(d.b[from:d.at])
}

func (d *decoder) value() api.Value {
	v := api.Value{Kind: int(d.byte())}
	switch v.Kind {
	case api.KindMissing, api.KindHidden:
	case api.KindBool:
		v.Int = int64(d.byte())
		require(v.Int <= 1, api.ErrEncoding)
	case api.KindInt:
		v.Int = d.int()
	case api.KindText:
		v.Text = d.text(api.MaxText)
	default:
		panic(api.ErrEncoding)
	}
	return v
}

func (d *decoder) row() api.Row {
	n := d.uint()
	require(n <= api.MaxWidth, api.ErrLimit)
	r := make(api.Row, n)
	for i := range r {
		r[i] = d.value()
	}
	return r
}
