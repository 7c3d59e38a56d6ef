package frame_test

import (
	"bytes"
	"encoding/binary"
	"hash/crc32"
	"math"
	"math/rand"
	"testing"

	"signalbroker/api"
	"signalbroker/frame"
)

// raw returns the bytes of a frame with any version and kind.
func raw(version, kind byte, payload []byte) []byte {
	b := []byte{0x5a, 0xa5, version, kind, byte(len(payload) >> 8), byte(len(payload))}
	b = append(b, payload...)
	return binary.BigEndian.AppendUint32(b, crc32.ChecksumIEEE(b[2:]))
}

func some(n int) []byte {
	b := make([]byte, n)
	rand.New(rand.NewSource(int64(n))).Read(b)
	return b
}

func TestSize(t *testing.T) {
	for n := range api.MaxPayload + 1 {
		if s := frame.Size(n); s != n+10 {
			t.Errorf("Size(%d) = %d", n, s)
		}
	}
	for _, n := range []int{-1, -10, math.MinInt, api.MaxPayload + 1, 256, math.MaxInt} {
		if s := frame.Size(n); s != 0 {
			t.Errorf("Size(%d) = %d", n, s)
		}
	}
}

func TestEncode(t *testing.T) {
	for _, kind := range []int{0, 1, 9, 22, 23, 255} {
		for _, n := range []int{0, 1, 3, 127, 199, 200} {
			b, e := frame.Encode(kind, some(n))
			if e != api.OK || !bytes.Equal(b, raw(1, byte(kind), some(n))) {
				t.Errorf("Encode(%d, %d bytes) = %x, %d", kind, n, b, e)
			}
		}
	}
	b, _ := frame.Encode(api.KindAck, []byte{6, 0xac, 2})
	want := []byte{0x5a, 0xa5, 1, 0x0e, 0, 3, 6, 0xac, 2}
	want = binary.BigEndian.AppendUint32(want, crc32.ChecksumIEEE(want[2:]))
	if !bytes.Equal(b, want) {
		t.Errorf("the document's example is %x", b)
	}
}

func TestEncodeErrors(t *testing.T) {
	for _, x := range []struct {
		kind, n int
		want    api.Errno
	}{
		{-1, 0, api.ErrRange},
		{256, 0, api.ErrRange},
		{math.MinInt, 5, api.ErrRange},
		{256, 201, api.ErrRange},
		{-1, 201, api.ErrRange},
		{0, 201, api.ErrLong},
		{9, 201, api.ErrLong},
		{255, 70000, api.ErrLong},
	} {
		if b, e := frame.Encode(x.kind, some(x.n)); len(b) != 0 || e != x.want {
			t.Errorf("Encode(%d, %d bytes) = %x, %d, not %d", x.kind, x.n, b, e, x.want)
		}
	}
}

type parsed struct {
	code    api.Errno
	kind    int
	payload []byte
	used    int
	decided bool
}

func expectParse(t *testing.T, name string, b []byte, want parsed) {
	t.Helper()
	it, used, ok := frame.Parse(b)
	if it.Code != want.code || it.Kind != want.kind || !bytes.Equal(it.Payload, want.payload) || used != want.used || ok != want.decided {
		t.Errorf("%s: Parse(%x) = %v, %d, %v, not %v", name, b, it, used, ok, want)
	}
}

func withChanged(b []byte, at int, to byte) []byte {
	b = bytes.Clone(b)
	b[at] = to
	return b
}

func TestParseRules(t *testing.T) {
	more := parsed{}
	garbage := func(c api.Errno) parsed { return parsed{code: c, used: 1, decided: true} }
	f := raw(1, 9, []byte{1, 2, 3})
	for _, x := range []struct {
		name string
		b    []byte
		want parsed
	}{
		{"nothing", nil, more},
		{"empty", []byte{}, more},
		{"another first byte", []byte{0x5b}, garbage(api.ErrMagic)},
		{"zero", []byte{0}, garbage(api.ErrMagic)},
		{"the second byte first", []byte{0xa5, 0x5a}, garbage(api.ErrMagic)},
		{"another first byte of a frame", withChanged(f, 0, 0), garbage(api.ErrMagic)},
		{"the first byte alone", []byte{0x5a}, more},
		{"another second byte", []byte{0x5a, 0}, garbage(api.ErrMagic)},
		{"the first byte twice", []byte{0x5a, 0x5a, 0xa5}, garbage(api.ErrMagic)},
		{"another second byte of a frame", withChanged(f, 1, 0xa4), garbage(api.ErrMagic)},
		{"the beginning", []byte{0x5a, 0xa5}, more},
		{"five bytes", []byte{0x5a, 0xa5, 1, 9, 0xff}, more},
		{"five bytes of another version", []byte{0x5a, 0xa5, 7, 99, 0xff}, more},
		{"a long length", []byte{0x5a, 0xa5, 1, 9, 0xff, 0xff}, garbage(api.ErrLong)},
		{"a length of 201", []byte{0x5a, 0xa5, 1, 9, 0, 201}, garbage(api.ErrLong)},
		{"a length of 256", []byte{0x5a, 0xa5, 1, 9, 1, 0}, garbage(api.ErrLong)},
		{"a long length of another version", []byte{0x5a, 0xa5, 2, 99, 1, 0}, garbage(api.ErrLong)},
		{"a length of 200", []byte{0x5a, 0xa5, 1, 9, 0, 200}, more},
		{"no payload", raw(1, 9, nil), parsed{kind: 9, used: 10, decided: true}},
		{"a wrong sum", withChanged(f, 7, 9), garbage(api.ErrSum)},
		{"a wrong sum and version", withChanged(f, 2, 2), garbage(api.ErrSum)},
		{"a wrong sum and kind", withChanged(f, 3, 99), garbage(api.ErrSum)},
		{"another version", raw(2, 9, []byte{1}), parsed{code: api.ErrVersion, used: 11, decided: true}},
		{"version 0", raw(0, 9, nil), parsed{code: api.ErrVersion, used: 10, decided: true}},
		{"another version and kind", raw(255, 99, []byte{1}), parsed{code: api.ErrVersion, used: 11, decided: true}},
		{"kind 0", raw(1, 0, []byte{1, 2}), parsed{code: api.ErrKind, used: 12, decided: true}},
		{"kind 23", raw(1, 23, []byte{1, 2}), parsed{code: api.ErrKind, used: 12, decided: true}},
		{"kind 255", raw(1, 255, nil), parsed{code: api.ErrKind, used: 10, decided: true}},
	} {
		expectParse(t, x.name, x.b, x.want)
	}
	for at := len(f) - 4; at < len(f); at++ {
		expectParse(t, "a changed sum", withChanged(f, at, f[at]+1), garbage(api.ErrSum))
	}
}

func TestParseOfFrames(t *testing.T) {
	for kind := 1; kind <= 22; kind++ {
		for _, n := range []int{0, 1, 2, 17, 199, 200} {
			f := raw(1, byte(kind), some(n))
			whole := parsed{kind: kind, payload: some(n), used: n + 10, decided: true}
			expectParse(t, "a frame", f, whole)
			expectParse(t, "a frame and more", append(bytes.Clone(f), 0x5a, 0, 1), whole)
			expectParse(t, "two frames", append(bytes.Clone(f), f...), whole)
			for k := range f {
				expectParse(t, "a part", f[:k], parsed{})
			}
			e, _ := frame.Encode(kind, some(n))
			expectParse(t, "what Encode made", e, whole)
		}
	}
}

func TestPayloadIsACopy(t *testing.T) {
	f := raw(1, 9, []byte{1, 2, 3})
	it, _, _ := frame.Parse(f)
	f[6] = 100
	if it.Payload[0] != 1 {
		t.Error("the payload shares memory with the argument")
	}
}

// Once Parse has decided, more bytes do not change its result.
func TestDecisionsStay(t *testing.T) {
	r := rand.New(rand.NewSource(1))
	for range 5000 {
		b := []byte{0x5a, 0xa5, byte(r.Intn(3)), byte(r.Intn(24)), 0, byte(r.Intn(4)), 1, 2, 3}[:r.Intn(10)]
		b = append(b, some(r.Intn(8))...)
		it, used, ok := frame.Parse(b)
		if !ok {
			continue
		}
		expectParse(t, "more bytes", append(b, some(5)...), parsed{it.Code, it.Kind, it.Payload, used, true})
	}
}
