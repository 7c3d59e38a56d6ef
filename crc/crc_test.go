package crc_test

import (
	"bytes"
	"hash/crc32"
	"math/rand"
	"testing"

	"signalbroker/crc"
)

func TestExamples(t *testing.T) {
	if x := crc.Sum([]byte("123456789")); x != 0xcbf43926 {
		t.Errorf("Sum = %x", x)
	}
	if x := crc.Sum(nil); x != 0 {
		t.Errorf("Sum of nothing = %x", x)
	}
	if x := crc.Sum([]byte{}); x != 0 {
		t.Errorf("Sum of an empty slice = %x", x)
	}
}

func TestSumOfEveryByte(t *testing.T) {
	for x := range 256 {
		b := []byte{byte(x)}
		if got, want := crc.Sum(b), crc32.ChecksumIEEE(b); got != want {
			t.Errorf("Sum(%x) = %x, not %x", b, got, want)
		}
	}
}

func TestSumOfRandomBytes(t *testing.T) {
	r := rand.New(rand.NewSource(1))
	for n := range 300 {
		b := make([]byte, n)
		r.Read(b)
		if got, want := crc.Sum(b), crc32.ChecksumIEEE(b); got != want {
			t.Errorf("Sum of %d bytes = %x, not %x", n, got, want)
		}
	}
}

func TestUpdateJoins(t *testing.T) {
	r := rand.New(rand.NewSource(2))
	b := make([]byte, 100)
	r.Read(b)
	kept := bytes.Clone(b)
	for k := range len(b) + 1 {
		if crc.Update(crc.Sum(b[:k]), b[k:]) != crc.Sum(b) {
			t.Errorf("cut at %d", k)
		}
	}
	for _, sum := range []uint32{0, 1, 0xffffffff, 0xdeadbeef} {
		if crc.Update(sum, nil) != sum {
			t.Errorf("Update(%x) of nothing", sum)
		}
		if crc.Update(sum, b) != crc32.Update(sum, crc32.IEEETable, b) {
			t.Errorf("Update(%x)", sum)
		}
	}
	if !bytes.Equal(b, kept) {
		t.Error("the argument was changed")
	}
}

func TestBurstsAreSeen(t *testing.T) {
	a := []byte("signal priority for several agencies")
	r := rand.New(rand.NewSource(3))
	for from := range 8*len(a) - 31 {
		b := bytes.Clone(a)
		b[from/8] ^= 1 << (from % 8)
		for k := from + 1; k < from+32; k++ {
			if r.Intn(2) == 0 {
				b[k/8] ^= 1 << (k % 8)
			}
		}
		if crc.Sum(a) == crc.Sum(b) {
			t.Errorf("a burst at %d is not seen", from)
		}
	}
}
