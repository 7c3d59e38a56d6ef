package message_test

import (
	"bytes"
	"encoding/hex"
	"math"
	"math/rand"
	"slices"
	"testing"

	"signalbroker/api"
	"signalbroker/frame"
	"signalbroker/message"
)

// form is what the document's table says of a kind: fixed Args, Args of a group, least and most groups, bytes of Data (-1: any).
type form struct{ fixed, group, least, most, data int }

func forms() map[int]form {
	return map[int]form{
		1: {0, 0, 0, 0, 0}, 2: {3, 0, 0, 0, 0}, 3: {1, 0, 0, 0, 0}, 4: {2, 0, 0, 0, 0}, 5: {1, 0, 0, 0, 0},
		6: {3, 4, 1, 3, 0}, 7: {1, 2, 1, 3, 0}, 8: {1, 0, 0, 0, 0}, 9: {0, 0, 0, 0, 0}, 10: {1, 0, 0, 0, 0},
		11: {1, 0, 0, 0, 0}, 12: {0, 0, 0, 0, 0}, 13: {2, 0, 0, 0, 0}, 14: {2, 0, 0, 0, 0}, 15: {2, 0, 0, 0, 0},
		16: {1, 0, 0, 0, 10}, 17: {1, 0, 0, 0, -1}, 18: {1, 3, 0, 16, 0}, 19: {0, 2, 0, 4, 0}, 20: {4, 0, 0, 0, 0},
		21: {1, 0, 0, 0, -1}, 22: {1, 0, 0, 0, 0},
	}
}

// sample returns a message with so many groups and bytes of Data (if the kind has any number).
func sample(kind, groups, data int) api.Message {
	f := forms()[kind]
	m := api.Message{Kind: kind}
	if kind <= 12 {
		m.Token = []byte{0, 1, 2, 3, 4, 5, 6, 7, 8, 9}
	}
	for k := range f.fixed + f.group*groups {
		m.Args = append(m.Args, k+1)
	}
	if f.data == -1 {
		m.Data = bytes.Repeat([]byte{0xdd}, data)
	} else {
		m.Data = bytes.Repeat([]byte{0xdd}, f.data)
	}
	return m
}

func equal(a, b api.Message) bool {
	return a.Kind == b.Kind && bytes.Equal(a.Token, b.Token) && slices.Equal(a.Args, b.Args) && bytes.Equal(a.Data, b.Data)
}

func empty(m api.Message) bool { return equal(m, api.Message{}) }

func expectValid(t *testing.T, m api.Message) {
	t.Helper()
	if !message.Valid(m) {
		t.Errorf("%v is not valid", m)
		return
	}
	b, e := message.Encode(m)
	if e != api.OK || len(b) > api.MaxPayload {
		t.Errorf("Encode(%v) = %x, %d", m, b, e)
	}
	if got, e := message.Decode(m.Kind, b); e != api.OK || !equal(got, m) {
		t.Errorf("Decode of %v is %v, %d", m, got, e)
	}
	f, e := message.Frame(m)
	if want, _ := frame.Encode(m.Kind, b); e != api.OK || !bytes.Equal(f, want) {
		t.Errorf("Frame(%v) = %x, %d", m, f, e)
	}
}

func expectInvalid(t *testing.T, m api.Message) {
	t.Helper()
	if message.Valid(m) {
		t.Errorf("%v is valid", m)
	}
	if b, e := message.Encode(m); len(b) != 0 || e != api.ErrForm {
		t.Errorf("Encode(%v) = %x, %d", m, b, e)
	}
	if b, e := message.Frame(m); len(b) != 0 || e != api.ErrForm {
		t.Errorf("Frame(%v) = %x, %d", m, b, e)
	}
}

func expectDecode(t *testing.T, kind int, payload []byte, want api.Errno) {
	t.Helper()
	m, e := message.Decode(kind, payload)
	if e != want || e != api.OK && !empty(m) {
		t.Errorf("Decode(%d, %x) = %v, %d, not %d", kind, payload, m, e, want)
	}
}

func TestForServer(t *testing.T) {
	for kind := -300; kind < 300; kind++ {
		if message.ForServer(kind) != (kind >= 1 && kind <= 12) {
			t.Errorf("ForServer(%d)", kind)
		}
	}
	if message.ForServer(math.MinInt) || message.ForServer(math.MaxInt) {
		t.Error("ForServer of great numbers")
	}
}

func TestPayloads(t *testing.T) {
	token := []byte{9, 8, 7, 6, 5, 4, 3, 2, 1, 0}
	for _, x := range []struct {
		m    api.Message
		want string
	}{
		{api.Message{Kind: 1, Token: token}, "09080706050403020100"},
		{api.Message{Kind: 2, Token: token, Args: []int{63, 3, 600}}, "09080706050403020100" + "3f03d804"},
		{api.Message{Kind: 6, Token: token, Args: []int{1, 2, 3, 0, 1, 2, 300}}, "09080706050403020100" + "010203" + "01" + "000102ac02"},
		{api.Message{Kind: 7, Token: token, Args: []int{200, 1, 2, 3, 4}}, "09080706050403020100" + "c801" + "02" + "01020304"},
		{api.Message{Kind: 14, Args: []int{6, 300}}, "06ac02"},
		{api.Message{Kind: 16, Args: []int{3}, Data: token}, "03" + "09080706050403020100"},
		{api.Message{Kind: 17, Args: []int{128}, Data: []byte{1, 2}}, "8001" + "0102"},
		{api.Message{Kind: 18, Args: []int{5}}, "0500"},
		{api.Message{Kind: 18, Args: []int{5, 1, 2, 3, 4, 5, 6}}, "0502" + "010203040506"},
		{api.Message{Kind: 19}, "00"},
		{api.Message{Kind: 19, Args: []int{5, 9}}, "010509"},
		{api.Message{Kind: 20, Args: []int{1, 2, 3, api.MaxNumber}}, "010203ffffffff0f"},
		{api.Message{Kind: 21, Args: []int{0}}, "00"},
		{api.Message{Kind: 22, Args: []int{16}}, "10"},
	} {
		b, e := message.Encode(x.m)
		if e != api.OK || hex.EncodeToString(b) != x.want {
			t.Errorf("Encode(%v) = %x, %d, not %s", x.m, b, e, x.want)
		}
		expectValid(t, x.m)
	}
}

func TestNumbersOfArgs(t *testing.T) {
	for kind, f := range forms() {
		for n := range 60 {
			m := sample(kind, 0, 0)
			m.Args = make([]int, n)
			fits := n == f.fixed
			if f.group > 0 {
				k := n - f.fixed
				fits = k%f.group == 0 && k >= f.least*f.group && k <= f.most*f.group
			}
			if fits {
				expectValid(t, m)
			} else {
				expectInvalid(t, m)
			}
		}
	}
}

func TestTokensAndData(t *testing.T) {
	for kind, f := range forms() {
		for n := range 22 {
			m := sample(kind, f.least, 3)
			m.Token = make([]byte, n)
			if want := kind <= 12 && n == 10 || kind > 12 && n == 0; want {
				expectValid(t, m)
			} else {
				expectInvalid(t, m)
			}
			m = sample(kind, f.least, 3)
			m.Data = make([]byte, n)
			if f.data == n || f.data == -1 {
				expectValid(t, m)
			} else {
				expectInvalid(t, m)
			}
		}
	}
}

func TestRangesOfArgs(t *testing.T) {
	for kind, f := range forms() {
		for at := range f.fixed + f.group*max(1, f.least) {
			for n, want := range map[int]bool{0: true, api.MaxNumber: true, -1: false, api.MaxNumber + 1: false, math.MinInt: false, math.MaxInt: false} {
				m := sample(kind, max(1, f.least), 2)
				m.Args[at] = n
				if want {
					expectValid(t, m)
				} else {
					expectInvalid(t, m)
				}
			}
		}
	}
}

func TestUnknownKinds(t *testing.T) {
	for _, kind := range []int{math.MinInt, -1, 0, 23, 24, 255, 256, 257, math.MaxInt} {
		expectInvalid(t, api.Message{Kind: kind})
		expectInvalid(t, api.Message{Kind: kind, Token: make([]byte, 10)})
		expectDecode(t, kind, nil, api.ErrKind)
		expectDecode(t, kind, make([]byte, 10), api.ErrKind)
		expectDecode(t, kind, make([]byte, 300), api.ErrKind)
	}
}

func TestLengthOfPayload(t *testing.T) {
	for _, kind := range []int{17, 21} {
		expectValid(t, sample(kind, 0, 199))
		expectInvalid(t, sample(kind, 0, 200))
		m := sample(kind, 0, 198)
		m.Args[0] = 128
		expectValid(t, m)
		m.Data = append(m.Data, 0)
		expectInvalid(t, m)
		expectDecode(t, kind, make([]byte, 200), api.OK)
		expectDecode(t, kind, make([]byte, 201), api.ErrForm)
		expectDecode(t, kind, make([]byte, 256), api.ErrForm)
	}
	// 49 numbers of four bytes each, and the number of groups, are 197 bytes.
	trail := sample(18, 16, 0)
	for k := range trail.Args {
		trail.Args[k] = 1 << 21
	}
	expectValid(t, trail)
	for k := range 3 {
		trail.Args[k] = 1 << 28
	}
	expectValid(t, trail)
	trail.Args[3] = 1 << 28
	expectInvalid(t, trail)
}

func TestDecodeRefuses(t *testing.T) {
	for kind, f := range forms() {
		if f.data == -1 {
			expectDecode(t, kind, nil, api.ErrForm)
			expectDecode(t, kind, []byte{0x80}, api.ErrForm)
			expectDecode(t, kind, []byte{0x80, 0}, api.ErrForm)
			continue
		}
		b, _ := message.Encode(sample(kind, max(1, f.least), 0))
		for n := range b {
			expectDecode(t, kind, b[:n], api.ErrForm)
		}
		expectDecode(t, kind, append(bytes.Clone(b), 0), api.ErrForm)
	}
	token := make([]byte, 10)
	for _, x := range []struct {
		kind int
		rest []byte
	}{
		{6, []byte{1, 2, 3, 0}},
		{6, []byte{1, 2, 3, 4, 0, 1, 2, 3, 0, 1, 2, 3, 0, 1, 2, 3, 0, 1, 2, 3}},
		{6, []byte{1, 2, 3, 1, 0, 1, 2}},
		{6, []byte{1, 2, 3, 0x81, 0, 0, 1, 2, 3}},
		{6, []byte{1, 2, 3, 0xff, 0xff, 0xff, 0xff, 0x0f}},
		{7, []byte{1, 0}},
		{7, []byte{1, 4, 0, 0, 0, 0, 0, 0, 0, 0}},
		{7, []byte{1, 2, 0, 0}},
		{8, []byte{0x80, 0}},
		{8, []byte{0xff, 0xff, 0xff, 0xff, 0x1f}},
	} {
		expectDecode(t, x.kind, append(bytes.Clone(token), x.rest...), api.ErrForm)
	}
	expectDecode(t, 18, append([]byte{1, 17}, make([]byte, 51)...), api.ErrForm)
	expectDecode(t, 18, append([]byte{1, 16}, make([]byte, 48)...), api.OK)
	expectDecode(t, 19, []byte{5, 0, 0, 0, 0, 0, 0, 0, 0, 0, 0}, api.ErrForm)
	expectDecode(t, 19, []byte{4, 0, 0, 0, 0, 0, 0, 0, 0}, api.OK)
	expectDecode(t, 16, make([]byte, 10), api.ErrForm)
	expectDecode(t, 16, make([]byte, 12), api.ErrForm)
}

// Whatever Decode accepts is the payload of what it returns.
func TestNoTwoPayloads(t *testing.T) {
	r := rand.New(rand.NewSource(1))
	accepted := 0
	for range 100000 {
		kind := 1 + r.Intn(22)
		f := forms()[kind]
		b, _ := message.Encode(sample(kind, f.least+r.Intn(f.most-f.least+1), r.Intn(5)))
		for range r.Intn(3) {
			if len(b) > 0 {
				b[r.Intn(len(b))] = byte([]int{0, 1, 2, 127, 128, 255, r.Intn(256)}[r.Intn(7)])
			}
		}
		b = append(b, make([]byte, r.Intn(2))...)
		m, e := message.Decode(kind, b)
		if e != api.OK {
			continue
		}
		accepted++
		if back, e := message.Encode(m); e != api.OK || !bytes.Equal(back, b) || m.Kind != kind {
			t.Fatalf("Decode(%d, %x) = %v", kind, b, m)
		}
	}
	if accepted < 1000 {
		t.Errorf("only %d were accepted", accepted)
	}
}

func TestDecodeIsNewMemory(t *testing.T) {
	b, _ := message.Encode(sample(17, 0, 4))
	m, _ := message.Decode(17, b)
	m.Data[0] = 1
	c, _ := message.Encode(sample(8, 0, 0))
	n, _ := message.Decode(8, c)
	n.Token[0] = 77
	if b[1] != 0xdd || c[0] != 0 {
		t.Error("a message shares memory with its payload")
	}
}
