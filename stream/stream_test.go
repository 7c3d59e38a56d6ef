package stream_test

import (
	"bytes"
	"encoding/binary"
	"hash/crc32"
	"math"
	"math/rand"
	"slices"
	"testing"

	"signalbroker/api"
	"signalbroker/stream"
)

func raw(version, kind byte, payload ...byte) []byte {
	b := []byte{0x5a, 0xa5, version, kind, byte(len(payload) >> 8), byte(len(payload))}
	b = append(b, payload...)
	return binary.BigEndian.AppendUint32(b, crc32.ChecksumIEEE(b[2:]))
}

func broken(b []byte) []byte {
	b = bytes.Clone(b)
	b[len(b)-1]++
	return b
}

func join(l ...[]byte) []byte { return bytes.Join(l, nil) }

func fault(c api.Errno) api.Item { return api.Item{Code: c} }

func good(kind int, payload ...byte) api.Item { return api.Item{Kind: kind, Payload: payload} }

func equal(a, b []api.Item) bool {
	return slices.EqualFunc(a, b, func(x, y api.Item) bool {
		return x.Code == y.Code && x.Kind == y.Kind && bytes.Equal(x.Payload, y.Payload)
	})
}

var (
	hello = raw(1, 1, 7, 8)
	list  = raw(1, 9)
	magic = fault(api.ErrMagic)
)

func TestValid(t *testing.T) {
	for n, want := range map[int]bool{0: true, 1: true, 255: true, 256: true, 257: false, 1000: false} {
		for _, garbage := range []bool{false, true} {
			if stream.Valid(api.Stream{Buffer: make([]byte, n), Garbage: garbage}) != want {
				t.Errorf("Valid with %d bytes is not %v", n, want)
			}
		}
	}
}

func TestPut(t *testing.T) {
	long := make([]byte, 300)
	rand.New(rand.NewSource(1)).Read(long)
	for _, have := range []int{0, 1, 100, 255, 256} {
		for _, add := range []int{0, 1, 2, 156, 157, 255, 256, 257, 300} {
			for _, garbage := range []bool{false, true} {
				s := api.Stream{Buffer: bytes.Repeat([]byte{9}, have), Garbage: garbage}
				got, ok := stream.Put(s, long[:add])
				fit := min(add, 256-have)
				if !bytes.Equal(got.Buffer, join(s.Buffer, long[:fit])) || got.Garbage != garbage || ok != (have+add <= 256) {
					t.Errorf("Put of %d bytes to %d: %d bytes, %v", add, have, len(got.Buffer), ok)
				}
			}
		}
	}
}

func TestPutIsNewMemory(t *testing.T) {
	buffer := make([]byte, 2, 10)
	b := []byte{1, 2}
	s, _ := stream.Put(api.Stream{Buffer: buffer}, b)
	s.Buffer[0], s.Buffer[2] = 5, 5
	if buffer[0] != 0 || buffer[:3][2] != 0 || b[0] != 1 {
		t.Error("Put changes its arguments")
	}
}

func TestAll(t *testing.T) {
	for _, x := range []struct {
		name string
		b    []byte
		want []api.Item
	}{
		{"nothing", nil, nil},
		{"a frame", hello, []api.Item{good(1, 7, 8)}},
		{"two frames", join(hello, list), []api.Item{good(1, 7, 8), good(9)}},
		{"a part", hello[:9], nil},
		{"a frame and a part", join(list, hello[:5]), []api.Item{good(9)}},
		{"garbage twice", join([]byte{0, 0}, list, []byte{1}, hello), []api.Item{magic, good(9), magic, good(1, 7, 8)}},
		{"one garbage", bytes.Repeat([]byte{3}, 500), []api.Item{magic}},
		{"a wrong sum", join(broken(hello), list), []api.Item{fault(api.ErrSum), good(9)}},
		{"two wrong sums", join(broken(list), broken(list), list), []api.Item{fault(api.ErrSum), fault(api.ErrSum), good(9)}},
		{"garbage and a wrong sum", join([]byte{0}, broken(list), list), []api.Item{magic, fault(api.ErrSum), good(9)}},
		{"too long", join([]byte{0x5a, 0xa5, 1, 9, 1, 0}, list), []api.Item{fault(api.ErrLong), good(9)}},
		{"garbage and too long", join([]byte{0, 0x5a, 0xa5, 1, 9, 1, 0}, list), []api.Item{magic, fault(api.ErrLong), good(9)}},
		{"too long twice", join([]byte{0x5a, 0xa5, 1, 9, 1, 0, 0x5a, 0xa5, 1, 9, 1, 0}, list), []api.Item{fault(api.ErrLong), fault(api.ErrLong), good(9)}},
		{"another version is no garbage", join([]byte{0}, raw(2, 1), []byte{0}, list), []api.Item{magic, fault(api.ErrVersion), magic, good(9)}},
		{"another kind is no garbage", join([]byte{0}, raw(1, 99), []byte{0}, list), []api.Item{magic, fault(api.ErrKind), magic, good(9)}},
		{"a frame within a frame", join(raw(1, 17, list...), list), []api.Item{good(17, list...), good(9)}},
		{"a frame within a broken frame", join(broken(raw(1, 17, list...)), list), []api.Item{fault(api.ErrSum), good(9), magic, good(9)}},
	} {
		if got := stream.All(x.b); !equal(got, x.want) {
			t.Errorf("%s: %v, not %v", x.name, got, x.want)
		}
	}
}

func TestTake(t *testing.T) {
	two := join(list, hello)
	for _, x := range []struct {
		name    string
		buffer  []byte
		garbage bool
		n       int
		want    []api.Item
		rest    []byte
		after   bool
	}{
		{"none", two, false, 0, nil, two, false},
		{"none of garbage", join([]byte{0}, two), true, 0, nil, join([]byte{0}, two), true},
		{"a negative number", two, true, -1, nil, two, true},
		{"the least number", two, false, math.MinInt, nil, two, false},
		{"one", two, false, 1, []api.Item{good(9)}, hello, false},
		{"two", two, true, 2, []api.Item{good(9), good(1, 7, 8)}, nil, false},
		{"without a limit", two, true, math.MaxInt, []api.Item{good(9), good(1, 7, 8)}, nil, false},
		{"garbage that was told", join([]byte{0, 0}, two), true, 1, []api.Item{good(9)}, hello, false},
		{"garbage that was not told", join([]byte{0, 0}, two), false, 1, []api.Item{magic}, join([]byte{0}, two), true},
		{"garbage after the last one stays", join(list, []byte{0, 0}), false, 1, []api.Item{good(9)}, []byte{0, 0}, false},
		{"told garbage after the last one stays", []byte{0, 0, 0}, false, 1, []api.Item{magic}, []byte{0, 0}, true},
		{"told garbage is used up", []byte{0, 0, 0}, true, 1, nil, nil, true},
		{"a wrong sum is told after garbage", broken(list), true, 1, []api.Item{fault(api.ErrSum)}, broken(list)[1:], true},
		{"a long one is told after garbage", []byte{0x5a, 0xa5, 0, 0, 1, 0}, true, 1, []api.Item{fault(api.ErrLong)}, []byte{0xa5, 0, 0, 1, 0}, true},
		{"another version clears garbage", raw(2, 1), true, 1, []api.Item{fault(api.ErrVersion)}, nil, false},
		{"another kind clears garbage", raw(1, 0), true, 1, []api.Item{fault(api.ErrKind)}, nil, false},
		{"a part stays", hello[:8], true, 3, nil, hello[:8], true},
		{"nothing", nil, true, 3, nil, nil, true},
	} {
		s, got := stream.Take(api.Stream{Buffer: x.buffer, Garbage: x.garbage}, x.n)
		if !equal(got, x.want) || !bytes.Equal(s.Buffer, x.rest) || s.Garbage != x.after {
			t.Errorf("%s: %v, %v, not %v, %x, %v", x.name, s, got, x.want, x.rest, x.after)
		}
	}
}

func TestTakeIsNewMemory(t *testing.T) {
	b := join(hello, []byte{0x5a, 1})
	s, items := stream.Take(api.Stream{Buffer: b}, 1)
	s.Buffer[0], items[0].Payload[0] = 99, 99
	if !bytes.Equal(b, join(hello, []byte{0x5a, 1})) {
		t.Error("a result shares memory with the argument")
	}
}

// noise returns bytes that contain frames, broken frames and garbage.
func noise(r *rand.Rand) []byte {
	var b []byte
	for range r.Intn(8) {
		switch r.Intn(7) {
		case 0:
			b = append(b, byte(r.Intn(256)))
		case 1:
			b = append(b, 0x5a)
		case 2:
			b = append(b, 0x5a, 0xa5, 1, 9, byte(r.Intn(2)), byte(r.Intn(4)))
		case 3:
			b = append(b, broken(raw(1, 9, 1, 2))...)
		case 4:
			b = append(b, raw(byte(r.Intn(3)), byte(r.Intn(25)), make([]byte, r.Intn(5))...)...)
		default:
			b = append(b, raw(1, byte(1+r.Intn(22)), 0x5a, 0xa5)...)
		}
	}
	return b
}

func TestPiecesDoNotMatter(t *testing.T) {
	r := rand.New(rand.NewSource(4))
	for range 2000 {
		b := noise(r)
		var s api.Stream
		var items []api.Item
		for rest := b; len(rest) > 0; {
			n := 1 + r.Intn(len(rest))
			var ok bool
			if s, ok = stream.Put(s, rest[:n]); !ok {
				t.Fatal("a piece does not fit")
			}
			rest = rest[n:]
			var more []api.Item
			s, more = stream.Take(s, math.MaxInt)
			items = append(items, more...)
			if len(s.Buffer) >= 210 {
				t.Fatal("too much is left")
			}
		}
		if !equal(items, stream.All(b)) {
			t.Fatalf("%x: %v, not %v", b, items, stream.All(b))
		}
	}
}

func TestTakingOneByOne(t *testing.T) {
	r := rand.New(rand.NewSource(5))
	for range 2000 {
		b := noise(r)
		s := api.Stream{Buffer: b}
		var items []api.Item
		for range len(b) + 1 {
			var one []api.Item
			if s, one = stream.Take(s, 1); len(one) > 1 {
				t.Fatal("more than one")
			}
			items = append(items, one...)
		}
		if !equal(items, stream.All(b)) {
			t.Fatalf("%x: %v, not %v", b, items, stream.All(b))
		}
	}
}

func TestLongInput(t *testing.T) {
	b := bytes.Repeat(join(list, []byte{0, 0}), 100000)
	if n := len(stream.All(b)); n != 200000 {
		t.Errorf("%d items", n)
	}
}
