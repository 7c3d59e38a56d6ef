package token_test

import (
	"bytes"
	"fmt"
	"math"
	"math/rand"
	"testing"

	"signalbroker/api"
	"signalbroker/rights"
	"signalbroker/token"
)

var free = api.Token{Parent: -1}

func secret(n int) []byte { return bytes.Repeat([]byte{byte(n)}, 8) }

func used(n, parent, rights, class, until int) api.Token {
	return api.Token{Used: true, Secret: secret(n), Parent: parent, Rights: rights, Class: class, Until: until}
}

func root() api.Token { return used(100, -1, 63, 3, 0) }

// slots fills the list with free slots.
func slots(l ...api.Token) []api.Token {
	for len(l) < 8 {
		l = append(l, free)
	}
	return l
}

// family: 1 and 2 come from 0, 3 from 1, 4 from 3, 6 from 2; 5 and 7 are free.
func family() []api.Token {
	return slots(root(), used(1, 0, 31, 2, 900), used(2, 0, 15, 3, 0), used(3, 1, 7, 2, 900), used(4, 3, 3, 1, 50), free, used(6, 2, 1, 0, 40))
}

func text(l []api.Token) string { return fmt.Sprint(l) }

func expectSlots(t *testing.T, name string, got, want []api.Token) {
	t.Helper()
	if text(got) != text(want) {
		t.Errorf("%s: %v, not %v", name, got, want)
	}
}

func TestNew(t *testing.T) {
	a := api.Agency{Secret: []byte("abcdefgh"), Rights: 21, Class: 2, Limits: []int{1, 2, 3, 4}, Requests: 3, Sessions: 2, Rate: 4, Burst: 5}
	l := token.New(a)
	expectSlots(t, "New", l, slots(api.Token{Used: true, Secret: []byte("abcdefgh"), Parent: -1, Rights: 21, Class: 2}))
	if !token.Valid(l) {
		t.Error("New is not valid")
	}
	l[0].Secret[0] = 'x'
	if a.Secret[0] != 'a' {
		t.Error("the secret is shared")
	}
}

func TestValid(t *testing.T) {
	for name, x := range map[string]struct {
		change func(l []api.Token) []api.Token
		want   bool
	}{
		"as it is":                   {func(l []api.Token) []api.Token { return l }, true},
		"the root alone":             {func(l []api.Token) []api.Token { return slots(root()) }, true},
		"nothing":                    {func(l []api.Token) []api.Token { return nil }, false},
		"seven slots":                {func(l []api.Token) []api.Token { return l[:7] }, false},
		"nine slots":                 {func(l []api.Token) []api.Token { return append(l, free) }, false},
		"no root":                    {func(l []api.Token) []api.Token { return slots() }, false},
		"a root with a parent":       {func(l []api.Token) []api.Token { l[0].Parent = 0; return l }, false},
		"a root with another parent": {func(l []api.Token) []api.Token { l[0].Parent = 1; return l }, false},
		"a root with an end":         {func(l []api.Token) []api.Token { l[0].Until = 10000; return l }, false},
		"a root without rights":      {func(l []api.Token) []api.Token { l = slots(root()); l[0].Rights = 0; return l }, true},
		"rights 64":                  {func(l []api.Token) []api.Token { l[0].Rights = 64; return l }, false},
		"rights -1":                  {func(l []api.Token) []api.Token { l[6].Rights = -1; return l }, false},
		"class 4":                    {func(l []api.Token) []api.Token { l[0].Class = 4; return l }, false},
		"class -1":                   {func(l []api.Token) []api.Token { l[6].Class = -1; return l }, false},
		"class 0":                    {func(l []api.Token) []api.Token { l[4].Class = 0; return l }, true},
		"a short secret":             {func(l []api.Token) []api.Token { l[3].Secret = secret(1)[:7]; return l }, false},
		"a long secret":              {func(l []api.Token) []api.Token { l[0].Secret = append(secret(1), 0); return l }, false},
		"no secret":                  {func(l []api.Token) []api.Token { l[6].Secret = nil; return l }, false},
		"until -1":                   {func(l []api.Token) []api.Token { l[6].Until = -1; return l }, false},
		"until 2^31":                 {func(l []api.Token) []api.Token { l[6].Until = 2 * api.MaxTick; return l }, true},
		"until 2^31 + 1":             {func(l []api.Token) []api.Token { l[6].Until = 2*api.MaxTick + 1; return l }, false},
		"a free slot with parent 0":  {func(l []api.Token) []api.Token { l[7].Parent = 0; return l }, false},
		"a free slot with parent -2": {func(l []api.Token) []api.Token { l[7].Parent = -2; return l }, false},
		"a free slot with a secret":  {func(l []api.Token) []api.Token { l[7].Secret = secret(0); return l }, false},
		"a free slot with no bytes":  {func(l []api.Token) []api.Token { l[7].Secret = []byte{}; return l }, true},
		"a free slot with rights":    {func(l []api.Token) []api.Token { l[7].Rights = 1; return l }, false},
		"a free slot with a class":   {func(l []api.Token) []api.Token { l[7].Class = 1; return l }, false},
		"a free slot with an end":    {func(l []api.Token) []api.Token { l[7].Until = 1; return l }, false},
		"a parent that is free":      {func(l []api.Token) []api.Token { l[4].Parent = 5; return l }, false},
		"a parent that is no slot":   {func(l []api.Token) []api.Token { l[4].Parent = 8; return l }, false},
		"no parent":                  {func(l []api.Token) []api.Token { l[4].Parent = -1; return l }, false},
		"its own parent":             {func(l []api.Token) []api.Token { l[4].Parent = 4; return l }, false},
		"a circle":                   {func(l []api.Token) []api.Token { l[3] = l[4]; l[3].Parent, l[4].Parent = 4, 3; return l }, false},
		"a parent of greater number": {func(l []api.Token) []api.Token {
			l[1], l[3] = used(1, 3, 7, 2, 900), used(3, 0, 31, 2, 900)
			l[4].Parent = 1
			return l
		}, true},
		"a right more than the parent": {func(l []api.Token) []api.Token { l[3].Rights = 32; return l }, false},
		"as many rights":               {func(l []api.Token) []api.Token { l[3].Rights = 31; return l }, true},
		"a right more than the root":   {func(l []api.Token) []api.Token { l = slots(root(), used(1, 0, 31, 2, 900)); l[0].Rights = 15; return l }, false},
		"a class above the root":       {func(l []api.Token) []api.Token { l = slots(root(), used(1, 0, 31, 2, 900)); l[0].Class = 1; return l }, false},
		"slot 1 is its own parent":     {func(l []api.Token) []api.Token { l[1].Parent = 1; return l }, false},
		"a class above the parent":     {func(l []api.Token) []api.Token { l[3].Class = 3; return l }, false},
		"later than the parent":        {func(l []api.Token) []api.Token { l[3].Until = 901; return l }, false},
		"without an end":               {func(l []api.Token) []api.Token { l[3].Until = 0; return l }, false},
		"sooner than the parent":       {func(l []api.Token) []api.Token { l[4].Until = 1; return l }, true},
		"an end where there is none":   {func(l []api.Token) []api.Token { l[2].Until = 41; return l }, true},
	} {
		l := x.change(family())
		if token.Valid(l) != x.want {
			t.Errorf("%s: it is not %v", name, x.want)
		}
	}
}

func TestBytes(t *testing.T) {
	for _, x := range []struct {
		agency, slot int
		secret, want []byte
	}{
		{1, 2, []byte{3, 4}, []byte{1, 2, 3, 4}},
		{0, 7, secret(9), append([]byte{0, 7}, secret(9)...)},
		{256, 257, nil, []byte{0, 1}},
		{-1, -256, []byte{5}, []byte{255, 0, 5}},
		{math.MaxInt, math.MinInt, []byte{}, []byte{255, 0}},
	} {
		if got := token.Bytes(x.agency, x.slot, x.secret); !bytes.Equal(got, x.want) {
			t.Errorf("Bytes(%d, %d) = %v", x.agency, x.slot, got)
		}
	}
	s := secret(1)
	token.Bytes(0, 0, s)[2] = 7
	if s[0] != 1 {
		t.Error("the secret is shared")
	}
}

func expectCheck(t *testing.T, name string, agency int, b []byte, kind, now, slot int, want api.Errno) {
	t.Helper()
	if s, e := token.Check(family(), agency, b, kind, now); s != slot || e != want {
		t.Errorf("%s: Check = %d, %d, not %d, %d", name, s, e, slot, want)
	}
}

func TestCheck(t *testing.T) {
	const denied = api.ErrDenied
	of := func(slot int) []byte { return token.Bytes(2, slot, family()[slot].Secret) }
	expectCheck(t, "the root", 2, of(0), api.KindReset, 5, 0, api.OK)
	expectCheck(t, "the root, late", 2, of(0), api.KindHello, api.MaxTick, 0, api.OK)
	expectCheck(t, "a derived one", 2, of(3), api.KindDerive, 5, 3, api.OK)
	expectCheck(t, "without the right", 2, of(3), api.KindRevoke, 5, 0, denied)
	expectCheck(t, "without the right for an audit", 2, of(2), api.KindAudit, 5, 0, denied)
	expectCheck(t, "a kind that needs none", 2, of(6), api.KindBudget, 5, 6, api.OK)
	expectCheck(t, "another agency", 1, of(0), api.KindHello, 5, 0, denied)
	expectCheck(t, "nothing", 2, nil, api.KindHello, 5, 0, denied)
	expectCheck(t, "a byte less", 2, of(0)[:9], api.KindHello, 5, 0, denied)
	expectCheck(t, "a byte more", 2, append(of(0), 0), api.KindHello, 5, 0, denied)
	expectCheck(t, "a free slot", 2, token.Bytes(2, 5, make([]byte, 8)), api.KindHello, 5, 0, denied)
	expectCheck(t, "no slot", 2, token.Bytes(2, 8, secret(100)), api.KindHello, 5, 0, denied)
	expectCheck(t, "slot 255", 2, token.Bytes(2, 255, secret(100)), api.KindHello, 5, 0, denied)
	expectCheck(t, "the secret of another slot", 2, token.Bytes(2, 1, secret(100)), api.KindHello, 5, 0, denied)
	for at := range 10 {
		b := of(0)
		b[at] ^= 128
		expectCheck(t, "a changed byte", 2, b, api.KindHello, 5, 0, denied)
	}
	expectCheck(t, "before the end", 2, of(4), api.KindRegister, 49, 4, api.OK)
	expectCheck(t, "at the end", 2, of(4), api.KindRegister, 50, 4, api.OK)
	expectCheck(t, "after the end", 2, of(4), api.KindRegister, 51, 0, denied)
	expectCheck(t, "long after the end", 2, of(4), api.KindHello, api.MaxTick, 0, denied)
}

func TestBelow(t *testing.T) {
	for slot, want := range map[int]int{0: 0b1011111, 1: 0b0011010, 2: 0b1000100, 3: 0b0011000, 4: 0b0010000, 5: 0, 6: 0b1000000, 7: 0, 8: 0, -1: 0, math.MinInt: 0, math.MaxInt: 0} {
		if got := token.Below(family(), slot); got != want {
			t.Errorf("Below(%d) = %b, not %b", slot, got, want)
		}
	}
	if got := token.Below(slots(root(), used(1, 0, 1, 1, 0), used(2, 1, 1, 1, 0)), 1); got != 6 {
		t.Errorf("the example: %d", got)
	}
	backwards := slots(root(), used(1, 2, 1, 1, 0), used(2, 3, 1, 1, 0), used(3, 0, 1, 1, 0))
	for slot, want := range []int{15, 2, 6, 14} {
		if got := token.Below(backwards, slot); got != want {
			t.Errorf("backwards: Below(%d) = %b, not %b", slot, got, want)
		}
	}
}

func TestDerive(t *testing.T) {
	for _, x := range []struct {
		parent, rights, class, life, now int
		want                             api.Token
	}{
		{0, 63, 3, 0, 0, used(9, 0, 63, 3, 0)},
		{0, 0, 0, 0, 77, used(9, 0, 0, 0, 0)},
		{0, 5, 1, 600, 77, used(9, 0, 5, 1, 677)},
		{0, 5, 1, 1, 0, used(9, 0, 5, 1, 1)},
		{0, 5, 1, 600, api.MaxTick, used(9, 0, 5, 1, api.MaxTick+600)},
		{1, 31, 2, 600, 300, used(9, 1, 31, 2, 900)},
		{2, 15, 3, 0, 5, used(9, 2, 15, 3, 0)},
		{4, 1, 1, 10, 40, used(9, 4, 1, 1, 50)},
		{6, 1, 0, 1, 1, used(9, 6, 1, 0, 2)},
	} {
		l, slot, e := token.Derive(family(), x.parent, x.rights, x.class, x.life, secret(9), x.now)
		want := family()
		want[5] = x.want
		if slot != 5 || e != api.OK {
			t.Errorf("Derive %v: %d, %d", x, slot, e)
		}
		expectSlots(t, "Derive", l, want)
		if !token.Valid(l) {
			t.Errorf("Derive %v: it is not valid", x)
		}
	}
}

func TestDeriveErrors(t *testing.T) {
	full := family()
	full[5], full[7] = used(5, 0, 0, 0, 0), used(7, 0, 0, 0, 0)
	broken := family()
	broken[5].Rights = 1
	type arguments struct {
		l                           []api.Token
		parent, rights, class, life int
		secret                      []byte
		now                         int
	}
	for name, x := range map[string]struct {
		arguments
		want api.Errno
	}{
		"slots that are not valid":      {arguments{broken, 0, 1, 1, 1, secret(9), 5}, api.ErrArg},
		"no slots":                      {arguments{nil, 0, 1, 1, 1, secret(9), 5}, api.ErrArg},
		"no secret":                     {arguments{family(), 0, 1, 1, 1, nil, 5}, api.ErrArg},
		"a short secret":                {arguments{family(), 0, 1, 1, 1, secret(9)[:7], 5}, api.ErrArg},
		"a long secret":                 {arguments{family(), 0, 1, 1, 1, append(secret(9), 1), 5}, api.ErrArg},
		"now -1":                        {arguments{family(), 0, 1, 1, 1, secret(9), -1}, api.ErrArg},
		"now too great":                 {arguments{family(), 0, 1, 1, 1, secret(9), api.MaxTick + 1}, api.ErrArg},
		"ErrArg ahead of all":           {arguments{family(), 9, 99, 9, 999, nil, 5}, api.ErrArg},
		"a parent that is free":         {arguments{family(), 5, 0, 0, 1, secret(9), 5}, api.ErrNone},
		"parent -1":                     {arguments{family(), -1, 0, 0, 1, secret(9), 5}, api.ErrNone},
		"parent 8":                      {arguments{family(), 8, 0, 0, 1, secret(9), 5}, api.ErrNone},
		"ErrNone ahead of ErrRange":     {arguments{full, 8, 99, 0, 1, secret(9), 5}, api.ErrNone},
		"rights 64":                     {arguments{family(), 0, 64, 0, 1, secret(9), 5}, api.ErrRange},
		"rights -1":                     {arguments{family(), 0, -1, 0, 1, secret(9), 5}, api.ErrRange},
		"a right that the parent lacks": {arguments{family(), 2, 16, 0, 1, secret(9), 5}, api.ErrRange},
		"some rights it lacks":          {arguments{family(), 2, 31, 0, 1, secret(9), 5}, api.ErrRange},
		"class -1":                      {arguments{family(), 0, 1, -1, 1, secret(9), 5}, api.ErrRange},
		"class 4":                       {arguments{family(), 0, 1, 4, 1, secret(9), 5}, api.ErrRange},
		"a class above the parent's":    {arguments{family(), 1, 1, 3, 1, secret(9), 5}, api.ErrRange},
		"life -1":                       {arguments{family(), 0, 1, 1, -1, secret(9), 5}, api.ErrRange},
		"life 601":                      {arguments{family(), 0, 1, 1, 601, secret(9), 5}, api.ErrRange},
		"the greatest life":             {arguments{family(), 0, 1, 1, math.MaxInt, secret(9), 5}, api.ErrRange},
		"later than the parent":         {arguments{family(), 4, 1, 1, 11, secret(9), 40}, api.ErrRange},
		"without an end":                {arguments{family(), 4, 1, 1, 0, secret(9), 40}, api.ErrRange},
		"ErrRange ahead of ErrFull":     {arguments{full, 0, 64, 1, 1, secret(9), 5}, api.ErrRange},
		"no free slot":                  {arguments{full, 0, 1, 1, 1, secret(9), 5}, api.ErrFull},
	} {
		l, slot, e := token.Derive(x.l, x.parent, x.rights, x.class, x.life, x.secret, x.now)
		if len(l) != 0 || slot != 0 || e != x.want {
			t.Errorf("%s: %v, %d, %d, not %d", name, l, slot, e, x.want)
		}
	}
}

func TestSlotsAreTakenInOrder(t *testing.T) {
	l := slots(root())
	for want := 1; want < 8; want++ {
		var slot int
		var e api.Errno
		if l, slot, e = token.Derive(l, 0, 1, 1, 0, secret(want), 5); slot != want || e != api.OK {
			t.Errorf("Derive = %d, %d, not %d", slot, e, want)
		}
	}
	l, _ = token.Revoke(l, 3)
	if _, slot, _ := token.Derive(l, 0, 1, 1, 0, secret(1), 5); slot != 3 {
		t.Errorf("the freed slot is not taken, but %d", slot)
	}
}

// freed returns the family without some slots.
func freed(l ...int) []api.Token {
	f := family()
	for _, s := range l {
		f[s] = free
	}
	return f
}

func TestRevoke(t *testing.T) {
	for slot, want := range map[int][]api.Token{1: freed(1, 3, 4), 2: freed(2, 6), 3: freed(3, 4), 4: freed(4), 6: freed(6)} {
		l, e := token.Revoke(family(), slot)
		if e != api.OK || !token.Valid(l) {
			t.Errorf("Revoke(%d): %d", slot, e)
		}
		expectSlots(t, "Revoke", l, want)
	}
	broken := family()
	broken[5].Class = 1
	for _, x := range []struct {
		l    []api.Token
		slot int
		want api.Errno
	}{
		{broken, 1, api.ErrArg}, {broken, 0, api.ErrArg}, {nil, 5, api.ErrArg},
		{family(), 0, api.ErrRange}, {family(), -1, api.ErrRange}, {family(), 8, api.ErrRange}, {family(), math.MaxInt, api.ErrRange}, {family(), math.MinInt, api.ErrRange},
		{family(), 5, api.ErrNone}, {family(), 7, api.ErrNone},
	} {
		if l, e := token.Revoke(x.l, x.slot); len(l) != 0 || e != x.want {
			t.Errorf("Revoke(%d) = %v, %d, not %d", x.slot, l, e, x.want)
		}
	}
}

func TestExpire(t *testing.T) {
	for _, x := range []struct {
		now  int
		want []api.Token
	}{
		{0, family()}, {39, family()}, {40, family()}, {41, freed(6)}, {50, freed(6)}, {51, freed(6, 4)},
		{900, freed(6, 4)}, {901, freed(6, 4, 3, 1)}, {api.MaxTick, freed(6, 4, 3, 1)},
	} {
		l := token.Expire(family(), x.now)
		expectSlots(t, "Expire", l, x.want)
		if !token.Valid(l) {
			t.Errorf("Expire at %d is not valid", x.now)
		}
	}
}

// After random changes the slots are valid, nobody gains a right, and what is revoked passes no check.
func TestRandomChanges(t *testing.T) {
	r := rand.New(rand.NewSource(1))
	for range 300 {
		l, now := slots(root()), 0
		for k := range 80 {
			kept := text(l)
			next := l
			switch r.Intn(5) {
			case 0:
				now += r.Intn(40)
				next = token.Expire(l, now)
			case 1:
				slot := r.Intn(9)
				if n, e := token.Revoke(l, slot); e == api.OK {
					next = n
					for s, x := range l {
						if token.Below(l, slot)>>s&1 == 1 {
							if _, e := token.Check(n, 0, token.Bytes(0, s, x.Secret), api.KindHello, now); e != api.ErrDenied {
								t.Fatal("a revoked token passes")
							}
						}
					}
				}
			default:
				parent := r.Intn(8)
				n, slot, e := token.Derive(l, parent, l[parent].Rights&r.Intn(64), r.Intn(4), r.Intn(100), secret(k), now)
				if e == api.OK {
					next = n
					for p := slot; p >= 0; p = n[p].Parent {
						if !rights.Within(n[slot].Rights, n[p].Rights) {
							t.Fatal("a token has more rights than an ancestor")
						}
					}
				}
			}
			if text(l) != kept {
				t.Fatal("an argument was changed")
			}
			if l = next; !token.Valid(l) {
				t.Fatalf("%v is not valid", l)
			}
			for s := range l {
				for q := s; q > 0 && l[q].Used; q = l[q].Parent {
					if token.Below(l, l[q].Parent)>>s&1 != 1 {
						t.Fatalf("%v: %d is not below %d", l, s, l[q].Parent)
					}
				}
			}
		}
	}
}
