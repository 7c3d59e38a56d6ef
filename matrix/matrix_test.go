package matrix_test

import (
	"math"
	"math/rand"
	"testing"

	"signalbroker/matrix"
)

// random returns rows of conflicts that are valid.
func random(r *rand.Rand) []int {
	c := make([]int, 1+r.Intn(8))
	for p := range c {
		for q := range p {
			if r.Intn(3) == 0 {
				c[p] |= 1 << q
				c[q] |= 1 << p
			}
		}
	}
	return c
}

func TestValid(t *testing.T) {
	for _, x := range []struct {
		c    []int
		want bool
	}{
		{nil, false},
		{[]int{}, false},
		{[]int{0}, true},
		{[]int{1}, false},
		{[]int{2}, false},
		{[]int{0, 0}, true},
		{[]int{2, 1}, true},
		{[]int{2, 0}, false},
		{[]int{0, 1}, false},
		{[]int{2, 1, 0}, true},
		{[]int{6, 1, 1}, true},
		{[]int{6, 5, 3}, true},
		{[]int{6, 5, 1}, false},
		{[]int{7, 1, 1}, false},
		{[]int{2, 3}, false},
		{[]int{6, 1}, false},
		{[]int{-1, -2}, false},
		{[]int{math.MinInt, 0}, false},
		{[]int{2 + 1<<8, 1}, false},
		{[]int{2, 1 + 1<<62}, false},
		{[]int{0, 0, 0, 0, 0, 0, 0, 0}, true},
		{[]int{0, 0, 0, 0, 0, 0, 0, 0, 0}, false},
		{[]int{254, 253, 251, 247, 239, 223, 191, 127}, true},
		{[]int{254, 253, 251, 247, 239, 223, 191, 255}, false},
		{[]int{254, 253, 251, 247, 239, 223, 191, 126}, false},
		{[]int{128, 0, 0, 0, 0, 0, 0, 1}, true},
		{[]int{256, 0, 0, 0, 0, 0, 0, 0}, false},
	} {
		if matrix.Valid(x.c) != x.want {
			t.Errorf("Valid(%v) is not %v", x.c, x.want)
		}
	}
}

func TestEveryBitMatters(t *testing.T) {
	r := rand.New(rand.NewSource(1))
	for range 500 {
		c := random(r)
		if !matrix.Valid(c) {
			t.Fatalf("%v is not valid", c)
		}
		p, bit := r.Intn(len(c)), r.Intn(64)
		c[p] ^= 1 << bit
		if matrix.Valid(c) {
			t.Errorf("%v is valid", c)
		}
	}
}

func TestConflict(t *testing.T) {
	c := []int{2, 1, 0}
	for p := -2; p < 6; p++ {
		for q := -2; q < 6; q++ {
			want := p == 0 && q == 1 || p == 1 && q == 0
			if matrix.Conflict(c, p, q) != want {
				t.Errorf("Conflict(%d, %d) is not %v", p, q, want)
			}
		}
	}
	for _, x := range []struct {
		c    []int
		p, q int
		want bool
	}{
		{nil, 0, 0, false},
		{[]int{2}, 0, 1, false}, // 1 is not a row
		{[]int{1}, 0, 0, true},
		{[]int{2, 0}, 0, 1, true},
		{[]int{2, 0}, 1, 0, false},
		{[]int{-1, 0}, 0, 1, true},
		{[]int{-2, 0}, 0, 0, false},
		{[]int{-2, 0}, 0, 1, true},
		{[]int{math.MinInt, 0}, 0, 1, false},
		{[]int{0, 0}, math.MinInt, 0, false},
		{[]int{0, 0}, 0, math.MaxInt, false},
		{[]int{-1, -1}, 1, math.MaxInt, false},
		{[]int{-1, -1}, -1, 1, false},
		{[]int{-1, -1}, 1, -1, false},
	} {
		if matrix.Conflict(x.c, x.p, x.q) != x.want {
			t.Errorf("Conflict(%v, %d, %d) is not %v", x.c, x.p, x.q, x.want)
		}
	}
}

func TestConflictIsTheBit(t *testing.T) {
	r := rand.New(rand.NewSource(2))
	for range 200 {
		c := random(r)
		for p := range c {
			for q := range c {
				if matrix.Conflict(c, p, q) != (c[p]&(1<<q) != 0) {
					t.Errorf("Conflict(%v, %d, %d)", c, p, q)
				}
			}
		}
	}
}

func TestExamples(t *testing.T) {
	c := []int{2, 1, 0}
	if p, q := matrix.Clash(c, 3); p != 0 || q != 1 {
		t.Errorf("Clash(3) = %d, %d", p, q)
	}
	if p, q := matrix.Clash(c, 5); p != -1 || q != -1 {
		t.Errorf("Clash(5) = %d, %d", p, q)
	}
	if a := matrix.Allowed(c, 1); a != 4 {
		t.Errorf("Allowed(1) = %d", a)
	}
}

// clash goes through the pairs from the greatest on, so that the least one is left.
func clash(c []int, set int) (int, int) {
	x, y := -1, -1
	for p := len(c) - 1; p >= 0; p-- {
		for q := len(c) - 1; q >= 0; q-- {
			if set&(1<<p) != 0 && set&(1<<q) != 0 && c[p]&(1<<q) != 0 {
				x, y = p, q
			}
		}
	}
	return x, y
}

func allowed(c []int, set int) int {
	a := 0
	for p, row := range c {
		if set&(1<<p) == 0 && row&set == 0 {
			a += 1 << p
		}
	}
	return a
}

func TestClashAndAllowedOfEverySet(t *testing.T) {
	r := rand.New(rand.NewSource(3))
	for range 200 {
		c := random(r)
		for set := range 256 {
			p, q := matrix.Clash(c, set)
			x, y := clash(c, set)
			if p != x || q != y {
				t.Fatalf("Clash(%v, %d) = %d, %d, not %d, %d", c, set, p, q, x, y)
			}
			a := matrix.Allowed(c, set)
			if a != allowed(c, set) {
				t.Fatalf("Allowed(%v, %d) = %d, not %d", c, set, a, allowed(c, set))
			}
			for e := range 8 {
				if p == -1 && a>>e&1 == 1 {
					if p, _ := matrix.Clash(c, set|1<<e); p != -1 {
						t.Fatalf("%v: %d with %d clashes", c, set, e)
					}
				}
			}
		}
	}
}
