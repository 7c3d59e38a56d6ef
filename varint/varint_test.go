package varint_test

import (
	"bytes"
	"math"
	"math/rand"
	"testing"

	"signalbroker/api"
	"signalbroker/varint"
)

func TestCodes(t *testing.T) {
	for _, x := range []struct {
		n    int
		code []byte
	}{
		{0, []byte{0}},
		{1, []byte{1}},
		{127, []byte{0x7f}},
		{128, []byte{0x80, 1}},
		{300, []byte{0xac, 2}},
		{16383, []byte{0xff, 0x7f}},
		{16384, []byte{0x80, 0x80, 1}},
		{1<<21 - 1, []byte{0xff, 0xff, 0x7f}},
		{1 << 21, []byte{0x80, 0x80, 0x80, 1}},
		{1<<28 - 1, []byte{0xff, 0xff, 0xff, 0x7f}},
		{1 << 28, []byte{0x80, 0x80, 0x80, 0x80, 1}},
		{api.MaxNumber, []byte{0xff, 0xff, 0xff, 0xff, 0x0f}},
	} {
		code, code2 := varint.Encode(x.n)
		if !bytes.Equal(code, x.code) || code2 != api.OK {
			t.Errorf("Encode(%d) = %x, %d", x.n, code, code2)
		}
		if s := varint.Size(x.n); s != len(x.code) {
			t.Errorf("Size(%d) = %d", x.n, s)
		}
		expectDecode(t, x.code, x.n, len(x.code), api.OK)
		expectDecode(t, append(bytes.Clone(x.code), 0), x.n, len(x.code), api.OK)
		expectDecode(t, append(bytes.Clone(x.code), 0xff, 0xff), x.n, len(x.code), api.OK)
		for k := range len(x.code) {
			expectDecode(t, x.code[:k], 0, 0, api.ErrForm)
		}
	}
}

func expectDecode(t *testing.T, b []byte, n, size int, code api.Errno) {
	t.Helper()
	if x, y, e := varint.Decode(b); x != n || y != size || e != code {
		t.Errorf("Decode(%x) = %d, %d, %d, not %d, %d, %d", b, x, y, e, n, size, code)
	}
}

func TestNumbersWithoutCode(t *testing.T) {
	for _, n := range []int{-1, -128, math.MinInt, api.MaxNumber + 1, 1 << 35, math.MaxInt} {
		if s := varint.Size(n); s != 0 {
			t.Errorf("Size(%d) = %d", n, s)
		}
		if code, e := varint.Encode(n); len(code) != 0 || e != api.ErrRange {
			t.Errorf("Encode(%d) = %x, %d", n, code, e)
		}
	}
}

func TestBytesThatAreNoCode(t *testing.T) {
	for _, b := range [][]byte{
		nil, {},
		{0x80}, {0xff}, {0xff, 0xff, 0xff, 0xff},
		{0x80, 0}, {0xff, 0}, {0x80, 0x80, 0}, {0x81, 0x80, 0}, {0x80, 0x80, 0x80, 0x80, 0},
		{0x80, 0x80, 0x80, 0x80, 0x10}, // 2^32
		{0xff, 0xff, 0xff, 0xff, 0x1f},
		{0xff, 0xff, 0xff, 0xff, 0x7f},
		{0x80, 0x80, 0x80, 0x80, 0x80, 0},
		{0xff, 0xff, 0xff, 0xff, 0x8f, 0},
		{0xff, 0xff, 0xff, 0xff, 0xff, 1},
		bytes.Repeat([]byte{0x80}, 30),
		append(bytes.Repeat([]byte{0x80}, 9), 1),
		append(bytes.Repeat([]byte{0x80}, 10), 1),
	} {
		expectDecode(t, b, 0, 0, api.ErrForm)
	}
}

func TestRoundTrip(t *testing.T) {
	r := rand.New(rand.NewSource(1))
	for range 20000 {
		n := int(r.Uint32() >> r.Intn(32))
		code, e := varint.Encode(n)
		if e != api.OK || len(code) != varint.Size(n) {
			t.Fatalf("Encode(%d) = %x, %d", n, code, e)
		}
		expectDecode(t, code, n, len(code), api.OK)
	}
}

// Every prefix that is accepted is the code of its number.
func TestNothingElseIsAccepted(t *testing.T) {
	r := rand.New(rand.NewSource(2))
	for range 50000 {
		b := make([]byte, r.Intn(7))
		for k := range b {
			b[k] = []byte{0, 1, 0x0f, 0x10, 0x7f, 0x80, 0x8f, 0xff, byte(r.Intn(256))}[r.Intn(9)]
		}
		n, size, e := varint.Decode(b)
		if e != api.OK {
			continue
		}
		if code, e := varint.Encode(n); e != api.OK || !bytes.Equal(code, b[:size]) {
			t.Fatalf("Decode(%x) = %d, %d", b, n, size)
		}
	}
}
