package poly_test

import (
	"math"
	"math/big"
	"slices"
	"testing"

	"affidavit/api"
	"affidavit/poly"
)

const (
	greatest  = math.MaxInt64 // the greatest modulus: 7 * 7 * 73 * 127 * 337 * 92737 * 649657
	bigPrime  = greatest - 24 // the greatest prime below it
	beyond    = api.MostPrime // the least that is too great
	mersenne  = 1<<61 - 1     // a prime
	halfWord  = 1<<32 - 5     // the greatest prime of 32 bits
	wholeWord = math.MaxUint64
)

func wrongModuli() []uint64 {
	return []uint64{0, 1, beyond, beyond + 1, beyond + 25, wholeWord}
}

func primes() []uint64 {
	return []uint64{2, 3, 5, 7, 11, 101, 65537, halfWord, mersenne, bigPrime}
}

func noPrimes() []uint64 {
	return []uint64{4, 6, 8, 9, 12, 15, 30, 1 << 32, 1 << 62, greatest - 1, greatest}
}

// dice makes numbers that look like chance and are the same each time.
type dice uint64

func (d *dice) word() uint64 {
	*d ^= *d << 13
	*d ^= *d >> 7
	*d ^= *d << 17
	return uint64(*d)
}

// poly is a polynomial of at most so many terms.
func (d *dice) poly(p uint64, terms int) []uint64 {
	l := make([]uint64, terms)
	for i := range l {
		l[i] = d.word() % p
		if d.word()%8 == 0 {
			l[i] = 0
		}
	}
	return cut(l)
}

// whole is a polynomial of just so many terms.
func (d *dice) whole(p uint64, terms int) []uint64 {
	l := append(make([]uint64, 0, terms), d.poly(p, terms)...)
	l = l[:terms]
	l[terms-1] = 1 + d.word()%(p-1)
	return l
}

func cut(l []uint64) []uint64 {
	for len(l) > 0 && l[len(l)-1] == 0 {
		l = l[:len(l)-1]
	}
	return l
}

// power x^n, times a number.
func power(number uint64, n int) []uint64 {
	l := make([]uint64, n+1)
	l[n] = number
	return l
}

// all polynomials modulo p of at most so many terms.
func all(p uint64, terms int) [][]uint64 {
	l := [][]uint64{nil}
	count := uint64(1)
	for range terms {
		count *= p
	}
	for code := uint64(1); code < count; code++ {
		var a []uint64
		for rest := code; rest > 0; rest /= p {
			a = append(a, rest%p)
		}
		l = append(l, a)
	}
	return l
}

func word(x uint64) *big.Int { return new(big.Int).SetUint64(x) }

// reduced is what is left of each number modulo p, from 0 on, without noughts at the end.
func reduced(p uint64, l []*big.Int) []uint64 {
	a := make([]uint64, len(l))
	for i, x := range l {
		a[i] = new(big.Int).Mod(x, word(p)).Uint64()
	}
	return cut(a)
}

func noughts(n int) []*big.Int {
	l := make([]*big.Int, n)
	for i := range l {
		l[i] = new(big.Int)
	}
	return l
}

func slowAdd(p uint64, a, b []uint64) []uint64 {
	l := noughts(max(len(a), len(b)))
	for i, x := range a {
		l[i].Add(l[i], word(x))
	}
	for i, x := range b {
		l[i].Add(l[i], word(x))
	}
	return reduced(p, l)
}

func slowSub(p uint64, a, b []uint64) []uint64 {
	l := noughts(max(len(a), len(b)))
	for i, x := range a {
		l[i].Add(l[i], word(x))
	}
	for i, x := range b {
		l[i].Sub(l[i], word(x))
	}
	return reduced(p, l)
}

func slowMul(p uint64, a, b []uint64) []uint64 {
	l := noughts(len(a) + len(b))
	for i, x := range a {
		for j, y := range b {
			l[i+j].Add(l[i+j], new(big.Int).Mul(word(x), word(y)))
		}
	}
	return reduced(p, l)
}

func slowEval(p uint64, a []uint64, x uint64) uint64 {
	sum := new(big.Int)
	for i, number := range a {
		sum.Add(sum, new(big.Int).Mul(word(number), new(big.Int).Exp(word(x), word(uint64(i)), word(p))))
	}
	return sum.Mod(sum, word(p)).Uint64()
}

// slowInv is the Inv of the last number of a (0: there is none).
func slowInv(p uint64, a []uint64) uint64 {
	if len(a) == 0 {
		return 0
	}
	x := new(big.Int).ModInverse(word(a[len(a)-1]), word(p))
	if x == nil {
		return 0
	}
	return x.Uint64()
}

// divided is what Div should tell.
type divided struct {
	q, r []uint64
	e    api.Errno
}

// slowDiv takes one term of the quotient after the other.
func slowDiv(p uint64, a, b []uint64) divided {
	inverse := slowInv(p, b)
	if inverse == 0 {
		return divided{e: api.ErrZero}
	}
	var q []uint64
	for r := a; ; {
		n := len(r) - len(b)
		if n < 0 {
			return divided{q, r, api.OK}
		}
		term := slowMul(p, power(r[len(r)-1], n), []uint64{inverse})
		q = slowAdd(p, q, term)
		r = slowSub(p, r, slowMul(p, term, b))
	}
}

// made is what Bezout should tell.
type made struct {
	g, s, t []uint64
	e       api.Errno
}

// slowBezout goes as the chapter says, one step within the other.
func slowBezout(p uint64, a, b []uint64) made {
	if len(b) == 0 {
		inverse := slowInv(p, a)
		switch {
		case len(a) == 0:
			return made{}
		case inverse == 0:
			return made{e: api.ErrZero}
		}
		return made{g: slowMul(p, a, []uint64{inverse}), s: []uint64{inverse}}
	}
	d := slowDiv(p, a, b)
	if d.e != api.OK {
		return made{e: d.e}
	}
	m := slowBezout(p, b, d.r)
	if m.e != api.OK {
		return made{e: m.e}
	}
	return made{g: m.g, s: m.t, t: slowSub(p, m.s, slowMul(p, d.q, m.t))}
}

// slowLcm goes step by step: the first error counts.
func slowLcm(p uint64, a, b []uint64) ([]uint64, api.Errno) {
	m := slowBezout(p, a, b)
	if m.e != api.OK || len(a) == 0 || len(b) == 0 {
		return nil, m.e
	}
	product := slowMul(p, slowDiv(p, a, m.g).q, b)
	if len(product) > api.MaxTerms {
		return nil, api.ErrLong
	}
	if len(product) == 0 {
		return nil, api.OK
	}
	inverse := slowInv(p, product)
	if inverse == 0 {
		return nil, api.ErrZero
	}
	return slowMul(p, product, []uint64{inverse}), api.OK
}

// binary is a call of two polynomials that answers lists.
type binary struct {
	name string
	call func(p uint64, a, b []uint64) ([][]uint64, api.Errno)
}

func one(call func(p uint64, a, b []uint64) ([]uint64, api.Errno)) func(p uint64, a, b []uint64) ([][]uint64, api.Errno) {
	return func(p uint64, a, b []uint64) ([][]uint64, api.Errno) {
		c, e := call(p, a, b)
		return [][]uint64{c}, e
	}
}

func calls() []binary {
	return []binary{
		{"Add", one(poly.Add)},
		{"Sub", one(poly.Sub)},
		{"Mul", one(poly.Mul)},
		{"Gcd", one(poly.Gcd)},
		{"Lcm", one(poly.Lcm)},
		{"Div", func(p uint64, a, b []uint64) ([][]uint64, api.Errno) {
			q, r, e := poly.Div(p, a, b)
			return [][]uint64{q, r}, e
		}},
		{"Bezout", func(p uint64, a, b []uint64) ([][]uint64, api.Errno) {
			g, s, t, e := poly.Bezout(p, a, b)
			return [][]uint64{g, s, t}, e
		}},
		{"Monic", func(p uint64, a, b []uint64) ([][]uint64, api.Errno) {
			c, e := poly.Monic(p, a)
			return [][]uint64{c}, e
		}},
		{"Eval", func(p uint64, a, b []uint64) ([][]uint64, api.Errno) {
			x, e := poly.Eval(p, a, 1)
			return [][]uint64{cut([]uint64{x})}, e
		}},
		{"Norm", func(p uint64, a, b []uint64) ([][]uint64, api.Errno) {
			c, e := poly.Norm(p, a)
			return [][]uint64{c}, e
		}},
	}
}

// asked holds a call's list and its error against what it should tell.
func asked(t *testing.T, name string, p uint64, a, b, got []uint64, e api.Errno, want []uint64, wantE api.Errno) {
	t.Helper()
	if e != wantE || !slices.Equal(got, want) {
		t.Fatalf("%s(%d, %v, %v): %v, %d, not %v, %d", name, p, a, b, got, e, want, wantE)
	}
}

// pairs of polynomials: all of little ones of small moduli, and some of each modulus.
func pairs(do func(p uint64, a, b []uint64)) {
	for _, c := range []struct {
		p     uint64
		terms int
	}{{2, 5}, {3, 3}, {4, 3}, {5, 2}, {6, 2}, {8, 2}, {9, 2}, {12, 2}} {
		l := all(c.p, c.terms)
		for _, a := range l {
			for _, b := range l {
				do(c.p, a, b)
			}
		}
	}
	d := dice(88172645463325252)
	for _, p := range append(primes(), noPrimes()...) {
		for range 60 {
			do(p, d.poly(p, int(d.word()%12)), d.poly(p, int(d.word()%12)))
		}
		for range 4 {
			a := d.poly(p, 40)
			do(p, a, d.poly(p, 30))
			do(p, a, a)
			do(p, nil, a)
			do(p, a, nil)
			// With a divisor that they share.
			b, c := slowMul(p, a, d.poly(p, 10)), slowMul(p, a, d.poly(p, 8))
			do(p, b, c)
			do(p, a, b)
		}
	}
}

func TestP3_1Right(t *testing.T) {
	for _, p := range append(primes(), noPrimes()...) {
		for _, a := range [][]uint64{nil, {}, {1}, {p - 1}, {0, 1}, {0, 0, p - 1}, {p - 1, p - 1, 1}, power(1, 511), slices.Repeat([]uint64{p - 1}, 512)} {
			if !poly.Right(p, a) {
				t.Errorf("%v is one modulo %d", a, p)
			}
		}
		for _, a := range [][]uint64{{0}, {1, 0}, {0, 0}, {1, 1, 0, 0}, {p}, {p + 1}, {wholeWord}, {p, 1}, {1, p, 1}, {1, 1, p}, power(1, 512), power(1, 513), slices.Repeat([]uint64{p - 1}, 513), make([]uint64, 512), make([]uint64, 513), power(1, 100000)} {
			if poly.Right(p, a) {
				t.Errorf("%v is none modulo %d", a, p)
			}
		}
	}
	for _, p := range wrongModuli() {
		for _, a := range [][]uint64{nil, {}, {0}, {1}, {0, 1}} {
			if poly.Right(p, a) {
				t.Errorf("%v is none modulo %d", a, p)
			}
		}
	}
}

func TestP3_1Norm(t *testing.T) {
	d := dice(1)
	for _, p := range append(primes(), noPrimes()...) {
		for _, a := range [][]uint64{nil, {}, {0}, {1}, {p}, {p - 1}, {p + 1}, {2 * p}, {2*p - 1}, {1, p}, {1, 0, p, 0}, {0, 0, p}, {p, p + 1}, {beyond, 1}, {1, beyond}, {wholeWord}, {wholeWord, wholeWord - 1, 0},
			make([]uint64, 512), power(1, 511), power(p, 511), slices.Repeat([]uint64{wholeWord}, 512), {d.word(), d.word(), d.word(), d.word()}} {
			l := make([]*big.Int, len(a))
			for i, x := range a {
				l[i] = word(x)
			}
			got, e := poly.Norm(p, a)
			asked(t, "Norm", p, a, nil, got, e, reduced(p, l), api.OK)
			if !poly.Right(p, got) {
				t.Errorf("Norm(%d, %v): %v", p, a, got)
			}
		}
		for _, a := range [][]uint64{make([]uint64, 513), power(1, 512), power(p, 512), power(1, 600), make([]uint64, 100000)} {
			got, e := poly.Norm(p, a)
			asked(t, "Norm", p, a, nil, got, e, nil, api.ErrLong)
		}
	}
	for _, p := range wrongModuli() {
		for _, a := range [][]uint64{nil, {0}, {1}, {5, 6}, make([]uint64, 513), power(1, 600)} { // ErrArg goes ahead
			got, e := poly.Norm(p, a)
			asked(t, "Norm", p, a, nil, got, e, nil, api.ErrArg)
		}
	}
}

func TestP3_1Sums(t *testing.T) {
	pairs(func(p uint64, a, b []uint64) {
		sum, e := poly.Add(p, a, b)
		asked(t, "Add", p, a, b, sum, e, slowAdd(p, a, b), api.OK)
		difference, e := poly.Sub(p, a, b)
		asked(t, "Sub", p, a, b, difference, e, slowSub(p, a, b), api.OK)
		// What goes at the end is no term.
		difference, e = poly.Sub(p, sum, b)
		asked(t, "Sub", p, sum, b, difference, e, a, api.OK)
		sum, e = poly.Add(p, slowSub(p, nil, a), a)
		asked(t, "Add", p, slowSub(p, nil, a), a, sum, e, nil, api.OK)
		difference, e = poly.Sub(p, a, a)
		asked(t, "Sub", p, a, a, difference, e, nil, api.OK)
	})
	d := dice(2)
	for _, p := range append(primes(), noPrimes()...) {
		for _, n := range []int{1, 511, 512} {
			a, b := d.whole(p, 512), d.whole(p, n)
			sum, e := poly.Add(p, a, b)
			asked(t, "Add", p, a, b, sum, e, slowAdd(p, a, b), api.OK)
			difference, e := poly.Sub(p, b, a)
			asked(t, "Sub", p, b, a, difference, e, slowSub(p, b, a), api.OK)
		}
	}
}

func TestP3_1Mul(t *testing.T) {
	pairs(func(p uint64, a, b []uint64) {
		product, e := poly.Mul(p, a, b)
		asked(t, "Mul", p, a, b, product, e, slowMul(p, a, b), api.OK)
	})
	d := dice(3)
	for _, p := range []uint64{2, 7, mersenne, bigPrime} {
		for _, c := range []struct{ a, b int }{{512, 1}, {1, 512}, {511, 2}, {256, 257}, {300, 213}, {512, 0}, {0, 512}} {
			a, b := d.poly(p, c.a), d.poly(p, c.b)
			if c.a > 0 && c.b > 0 {
				a, b = d.whole(p, c.a), d.whole(p, c.b)
			}
			product, e := poly.Mul(p, a, b)
			asked(t, "Mul", p, a, b, product, e, slowMul(p, a, b), api.OK)
		}
		for _, c := range []struct{ a, b int }{{512, 2}, {2, 512}, {257, 257}, {300, 214}, {512, 512}} {
			a, b := d.whole(p, c.a), d.whole(p, c.b)
			product, e := poly.Mul(p, a, b)
			asked(t, "Mul", p, a, b, product, e, nil, api.ErrLong)
		}
	}
}

// Where p isn't prime, a product may have fewer terms than its factors make one expect: it counts how many it has.
func TestP3_1MulGoes(t *testing.T) {
	for _, c := range []struct {
		p    uint64
		a, b []uint64
		e    api.Errno
	}{
		{6, []uint64{0, 2}, []uint64{0, 3}, api.OK},
		{6, power(2, 511), power(3, 511), api.OK},                                                 // 0
		{6, append([]uint64{1}, power(2, 510)...), append([]uint64{1}, power(3, 510)...), api.OK}, // x^511 is left
		{6, append([]uint64{1, 1}, power(2, 509)...), append([]uint64{1}, power(3, 510)...), api.ErrLong},
		{4, append([]uint64{0, 1}, power(2, 509)...), append([]uint64{0, 1}, power(2, 509)...), api.OK}, // x^512 is there 4 times
		{4, append([]uint64{0, 1}, power(2, 509)...), append([]uint64{0, 3, 1}, power(2, 508)...), api.ErrLong},
		{greatest, power(7, 400), power(greatest/7, 400), api.OK},
		{greatest, power(7, 400), power(greatest/7-1, 400), api.ErrLong},
	} {
		want := slowMul(c.p, c.a, c.b)
		if (len(want) > api.MaxTerms) != (c.e == api.ErrLong) {
			t.Fatal(c.p, len(want))
		}
		if c.e != api.OK {
			want = nil
		}
		product, e := poly.Mul(c.p, c.a, c.b)
		asked(t, "Mul", c.p, c.a, c.b, product, e, want, c.e)
	}
}

func TestP3_1Eval(t *testing.T) {
	d := dice(4)
	for _, p := range append(primes(), noPrimes()...) {
		for _, a := range [][]uint64{nil, {}, {1}, {p - 1}, {0, 1}, {p - 1, 1}, {0, 0, p - 1}, d.whole(p, 5), d.whole(p, 30), d.whole(p, 512), slices.Repeat([]uint64{p - 1}, 512)} {
			for _, x := range []uint64{0, 1, 2 % p, p / 2, p - 1, d.word() % p} {
				if got, e := poly.Eval(p, a, x); e != api.OK || got != slowEval(p, a, x) {
					t.Errorf("Eval(%d, %v, %d): %d, %d, not %d", p, a, x, got, e, slowEval(p, a, x))
				}
			}
			for _, x := range []uint64{p, p + 1, 2 * p, beyond, wholeWord} {
				if got, e := poly.Eval(p, a, x); e != api.ErrArg || got != 0 {
					t.Errorf("Eval(%d, %v, %d): %d, %d", p, a, x, got, e)
				}
			}
		}
	}
}

// Whatever isn't a polynomial is refused ahead of all else.
func TestP3_1Refuses(t *testing.T) {
	refuse := func(p uint64, a, b []uint64, alone bool) {
		t.Helper()
		for _, c := range calls() {
			if c.name == "Norm" || alone && (c.name == "Monic" || c.name == "Eval") {
				continue
			}
			answer, e := c.call(p, a, b)
			for _, l := range answer {
				if e != api.ErrArg || len(l) != 0 {
					t.Errorf("%s(%d, %v, %v): %v, %d", c.name, p, a, b, l, e)
				}
			}
		}
	}
	for _, p := range wrongModuli() {
		for _, a := range [][]uint64{nil, {}, {0}, {1}, {0, 1}, {1, 1}, {p}} {
			for _, b := range [][]uint64{nil, {0}, {1}, {0, 1}} {
				refuse(p, a, b, false)
			}
		}
	}
	d := dice(5)
	for _, p := range append(primes(), noPrimes()...) {
		good := [][]uint64{nil, {1}, {p - 1, 1}, power(1, 511), d.whole(p, 512)}
		if p > 3 && slowInv(p, []uint64{p / 2}) == 0 {
			good = append(good, []uint64{1, p / 2}) // ErrArg goes ahead of ErrZero
		}
		for _, wrong := range [][]uint64{{0}, {1, 0}, {p}, {1, p}, {p, 1}, {wholeWord, 1}, power(1, 512), d.whole(p, 513), make([]uint64, 513), power(p, 511), power(1, 5000)} {
			for _, a := range good {
				refuse(p, wrong, a, false)
				refuse(p, a, wrong, true)
			}
			refuse(p, wrong, wrong, false)
		}
	}
}

func TestP3_2Div(t *testing.T) {
	pairs(func(p uint64, a, b []uint64) {
		want := slowDiv(p, a, b)
		q, r, e := poly.Div(p, a, b)
		asked(t, "Div: quotient", p, a, b, q, e, want.q, want.e)
		asked(t, "Div: rest", p, a, b, r, e, want.r, want.e)
		if e == api.OK && (len(r) >= len(b) || !slices.Equal(slowAdd(p, slowMul(p, q, b), r), a)) {
			t.Fatalf("Div(%d, %v, %v): %v, %v", p, a, b, q, r)
		}
	})
	d := dice(6)
	for _, p := range []uint64{2, 7, halfWord, bigPrime, 9, greatest} {
		a := d.whole(p, 512)
		for _, n := range []int{1, 2, 3, 256, 257, 511, 512} {
			b := d.whole(p, n)
			b[n-1] = p - 1 // it has an Inv, though p isn't prime
			q, r, e := poly.Div(p, a, b)
			if e != api.OK || len(q) != 513-n || len(r) >= n || !slices.Equal(slowAdd(p, slowMul(p, q, b), r), a) {
				t.Errorf("Div modulo %d by %d terms: %v, %v, %d", p, n, q, r, e)
			}
		}
	}
}

func TestP3_2DivByNothing(t *testing.T) {
	for _, c := range []struct {
		p    uint64
		a, b []uint64
	}{
		{7, []uint64{1, 2}, nil},
		{7, []uint64{1, 2}, []uint64{}},
		{7, nil, nil},
		{6, []uint64{1, 1}, []uint64{1, 2}},
		{6, []uint64{2, 4}, []uint64{1, 2}}, // twice it, but 2 has no Inv
		{6, nil, []uint64{3}},
		{6, []uint64{1}, []uint64{1, 3}}, // of less degree
		{4, []uint64{1, 1, 1}, []uint64{2}},
		{9, []uint64{1, 1, 1}, []uint64{1, 6}},
		{greatest, []uint64{1, 1, 1}, []uint64{1, 7 * 73}},
	} {
		if q, r, e := poly.Div(c.p, c.a, c.b); e != api.ErrZero || len(q)+len(r) != 0 {
			t.Errorf("Div(%d, %v, %v): %v, %v, %d", c.p, c.a, c.b, q, r, e)
		}
	}
	if q, r, e := poly.Div(6, []uint64{2, 3, 4}, []uint64{3, 5}); e != api.OK || !slices.Equal(q, []uint64{3, 2}) || !slices.Equal(r, []uint64{5}) {
		t.Error(q, r, e) // 3 + 2 x times 3 + 5 x is 3 + 3 x + 4 x²
	}
}

func TestP3_2Monic(t *testing.T) {
	pairs(func(p uint64, a, _ []uint64) {
		want, wantE := []uint64(nil), api.OK
		if len(a) > 0 {
			if inverse := slowInv(p, a); inverse == 0 {
				wantE = api.ErrZero
			} else {
				want = slowMul(p, a, []uint64{inverse})
			}
		}
		got, e := poly.Monic(p, a)
		asked(t, "Monic", p, a, nil, got, e, want, wantE)
		if len(got) > 0 && (len(got) != len(a) || got[len(got)-1] != 1) {
			t.Fatalf("Monic(%d, %v): %v", p, a, got)
		}
	})
	d := dice(7)
	a := d.whole(bigPrime, 512)
	got, e := poly.Monic(bigPrime, a)
	asked(t, "Monic", bigPrime, a, nil, got, e, slowMul(bigPrime, a, []uint64{slowInv(bigPrime, a)}), api.OK)
	for _, c := range []struct {
		p uint64
		a []uint64
	}{{4, []uint64{2}}, {6, []uint64{2, 4}}, {6, []uint64{1, 3}}, {9, power(3, 511)}, {greatest, []uint64{1, 127}}} {
		got, e := poly.Monic(c.p, c.a)
		asked(t, "Monic", c.p, c.a, nil, got, e, nil, api.ErrZero)
	}
}

// bezout asks Gcd and Bezout, and holds them against the slow way.
func bezout(t *testing.T, p uint64, a, b []uint64) {
	t.Helper()
	want := slowBezout(p, a, b)
	g, e := poly.Gcd(p, a, b)
	asked(t, "Gcd", p, a, b, g, e, want.g, want.e)
	g, s, u, e := poly.Bezout(p, a, b)
	asked(t, "Bezout: Gcd", p, a, b, g, e, want.g, want.e)
	asked(t, "Bezout: s", p, a, b, s, e, want.s, want.e)
	asked(t, "Bezout: t", p, a, b, u, e, want.t, want.e)
	if e == api.OK && !slices.Equal(slowAdd(p, slowMul(p, s, a), slowMul(p, u, b)), g) {
		t.Fatalf("Bezout(%d, %v, %v): %v, %v, %v", p, a, b, g, s, u)
	}
}

func TestP3_3Bezout(t *testing.T) {
	pairs(func(p uint64, a, b []uint64) { bezout(t, p, a, b) })
}

// So long as may be, and so that each step takes away one degree, or none is shared, or all.
func TestP3_3BezoutLong(t *testing.T) {
	d := dice(8)
	for _, p := range []uint64{2, 7, bigPrime} {
		a, b := d.whole(p, 120), d.whole(p, 119)
		bezout(t, p, a, b)
		bezout(t, p, b, a)
		a, b = d.whole(p, 512), d.whole(p, 511)
		g, s, u, e := poly.Bezout(p, a, b)
		if gcd, e := poly.Gcd(p, a, b); e != api.OK || !slices.Equal(gcd, g) {
			t.Errorf("modulo %d: %v, %d", p, gcd, e)
		}
		if e != api.OK || len(s) > 511 || len(u) > 512 || !slices.Equal(slowAdd(p, slowMul(p, s, a), slowMul(p, u, b)), g) {
			t.Errorf("modulo %d: %v, %v, %v, %d", p, g, s, u, e)
		}
		bezout(t, p, a, a)
		bezout(t, p, a, nil)
		bezout(t, p, nil, a)
		bezout(t, p, a, []uint64{p - 1})
		bezout(t, p, power(1, 511), power(p-1, 500))
	}
	// Each quotient is x: the numbers are Fibonacci's, and the steps as many as can be.
	last, next := []uint64{1}, []uint64{0, 1}
	for len(next) < 512 {
		x, e := poly.Mul(7, next, []uint64{0, 1})
		if e != api.OK {
			t.Fatal(e)
		}
		last, next = next, slowAdd(7, x, last)
	}
	bezout(t, 7, next, last)
}

func TestP3_3Known(t *testing.T) {
	for _, c := range []struct {
		p             uint64
		a, b, g, s, t []uint64
		e             api.Errno
	}{
		{7, []uint64{6, 0, 1}, []uint64{6, 1}, []uint64{6, 1}, nil, []uint64{1}, api.OK},
		{7, nil, nil, nil, nil, nil, api.OK},
		{6, nil, nil, nil, nil, nil, api.OK},
		{7, []uint64{1, 3}, nil, []uint64{5, 1}, []uint64{5}, nil, api.OK},
		{7, nil, []uint64{1, 3}, []uint64{5, 1}, nil, []uint64{5}, api.OK},
		{7, []uint64{3}, []uint64{5}, []uint64{1}, nil, []uint64{3}, api.OK},
		{7, []uint64{1, 3}, []uint64{1, 3}, []uint64{5, 1}, nil, []uint64{5}, api.OK},
		{7, []uint64{2, 1}, []uint64{6, 0, 1}, []uint64{1}, []uint64{3, 2}, []uint64{5}, api.OK},
		{6, nil, []uint64{1, 2}, nil, nil, nil, api.ErrZero},
		{6, []uint64{1, 2}, nil, nil, nil, nil, api.ErrZero},
		{6, []uint64{1, 2}, []uint64{1, 1}, []uint64{1}, []uint64{5}, []uint64{2}, api.OK}, // 2 goes: it divides nothing
		{6, []uint64{1, 1}, []uint64{1, 2}, nil, nil, nil, api.ErrZero},
		{6, []uint64{3, 0, 1}, []uint64{1, 1}, nil, nil, nil, api.ErrZero}, // the rest is 4
		{6, []uint64{0, 3, 1}, []uint64{0, 0, 1}, nil, nil, nil, api.ErrZero},
		{9, []uint64{0, 3, 1}, []uint64{3, 1}, []uint64{3, 1}, nil, []uint64{1}, api.OK},
	} {
		if want := slowBezout(c.p, c.a, c.b); want.e != c.e || !slices.Equal(want.g, c.g) || !slices.Equal(want.s, c.s) || !slices.Equal(want.t, c.t) {
			t.Error("the slow way", c, want)
		}
		bezout(t, c.p, c.a, c.b)
	}
}

func TestP3_3Lcm(t *testing.T) {
	pairs(func(p uint64, a, b []uint64) {
		want, wantE := slowLcm(p, a, b)
		got, e := poly.Lcm(p, a, b)
		asked(t, "Lcm", p, a, b, got, e, want, wantE)
	})
	for _, c := range []struct {
		p          uint64
		a, b, want []uint64
		e          api.Errno
	}{
		{7, []uint64{6, 0, 1}, []uint64{6, 1}, []uint64{6, 0, 1}, api.OK},
		{7, []uint64{6, 1}, []uint64{6, 0, 1}, []uint64{6, 0, 1}, api.OK},
		{7, nil, nil, nil, api.OK},
		{7, []uint64{1, 1}, nil, nil, api.OK},
		{7, nil, []uint64{1, 1}, nil, api.OK},
		{7, []uint64{3}, []uint64{5}, []uint64{1}, api.OK},
		{6, nil, []uint64{1, 2}, nil, api.ErrZero}, // Gcd's error goes ahead of the 0
		{6, []uint64{1, 2}, nil, nil, api.ErrZero},
		{6, []uint64{1, 1}, nil, nil, api.OK},
		{6, []uint64{1, 2}, []uint64{1, 1}, nil, api.ErrZero}, // Gcd is 1, and the product ends in 2
		{7, power(2, 511), power(3, 511), power(1, 511), api.OK},
		{7, power(1, 511), []uint64{3}, power(1, 511), api.OK},
		{7, power(1, 511), []uint64{3, 1}, nil, api.ErrLong},
		{7, []uint64{3, 1}, power(1, 511), nil, api.ErrLong},
		{7, power(1, 510), []uint64{3, 1}, append(power(3, 510), 1), api.OK},
		{6, power(2, 511), []uint64{1, 1}, nil, api.ErrZero}, // the rest is 4: Gcd's error goes ahead of ErrLong
	} {
		got, e := poly.Lcm(c.p, c.a, c.b)
		asked(t, "Lcm", c.p, c.a, c.b, got, e, c.want, c.e)
	}
}

// ErrLong goes ahead of ErrZero, where both steps would tell one: the product is too long, and ends in what has no Inv.
func TestP3_3LcmLong(t *testing.T) {
	a := append([]uint64{1}, power(2, 510)...) // 1 + 2 x^511
	b := []uint64{1, 1}                        // at -1, a is -1 modulo 4: Gcd is 1
	if m := slowBezout(4, a, b); m.e != api.OK || !slices.Equal(m.g, []uint64{1}) || slowInv(4, a) != 0 {
		t.Fatal(m)
	}
	got, e := poly.Lcm(4, a, b)
	asked(t, "Lcm", 4, a, b, got, e, nil, api.ErrLong)
	short := append([]uint64{1}, power(2, 508)...)
	got, e = poly.Lcm(4, short, b)
	asked(t, "Lcm", 4, short, b, got, e, nil, api.ErrZero)
}

// divides: is what is left of a, divided by b, 0?
func divides(t *testing.T, p uint64, a, b []uint64) bool {
	t.Helper()
	_, rest, e := poly.Div(p, a, b)
	if e != api.OK {
		t.Fatalf("Div(%d, %v, %v): %d", p, a, b, e)
	}
	return len(rest) == 0
}

// The quotient times b and the rest are a, and no other two are.
func TestP3_4Div(t *testing.T) {
	l := all(3, 3)
	for _, b := range l[1:] {
		found := map[int]int{}
		for _, q := range l {
			for _, r := range l {
				if len(r) >= len(b) {
					continue
				}
				a := slowAdd(3, slowMul(3, q, b), r)
				gotQ, gotR, e := poly.Div(3, a, b)
				if e != api.OK || !slices.Equal(gotQ, q) || !slices.Equal(gotR, r) {
					t.Fatalf("Div(3, %v, %v): %v, %v, %d", a, b, gotQ, gotR, e)
				}
				found[len(a)]++
			}
		}
		if found[len(b)+2] == 0 {
			t.Error(b, found)
		}
	}
}

// Gcd divides both, and whatever divides both divides it.
func TestP3_4Gcd(t *testing.T) {
	for _, c := range []struct {
		p     uint64
		terms int
	}{{2, 5}, {3, 3}, {5, 2}} {
		l := all(c.p, c.terms)
		for _, a := range l {
			for _, b := range l {
				g, e := poly.Gcd(c.p, a, b)
				if e != api.OK {
					t.Fatalf("Gcd(%d, %v, %v): %d", c.p, a, b, e)
				}
				if len(a)+len(b) == 0 {
					continue
				}
				if g[len(g)-1] != 1 || !divides(t, c.p, a, g) || !divides(t, c.p, b, g) {
					t.Fatalf("Gcd(%d, %v, %v): %v", c.p, a, b, g)
				}
				for _, d := range l[1:] {
					if divides(t, c.p, a, d) && divides(t, c.p, b, d) && !divides(t, c.p, g, d) {
						t.Fatalf("%v divides %v and %v, not %v, modulo %d", d, a, b, g, c.p)
					}
				}
			}
		}
	}
}

// Lcm times Gcd is the product, made monic; what both divide, it divides too.
func TestP3_4Lcm(t *testing.T) {
	ask := func(p uint64, a, b []uint64) []uint64 {
		t.Helper()
		g, e1 := poly.Gcd(p, a, b)
		m, e2 := poly.Lcm(p, a, b)
		product, e3 := poly.Mul(p, a, b)
		monic, e4 := poly.Monic(p, product)
		if e1+e2+e3+e4 != api.OK || !slices.Equal(slowMul(p, m, g), monic) {
			t.Fatalf("Lcm(%d, %v, %v): %v, not %v by %v", p, a, b, m, monic, g)
		}
		return m
	}
	l := all(2, 5)
	for _, a := range l[1:] {
		for _, b := range l[1:] {
			m := ask(2, a, b)
			for _, c := range l {
				if divides(t, 2, c, a) && divides(t, 2, c, b) && !divides(t, 2, c, m) {
					t.Fatalf("%v and %v divide %v, %v does not", a, b, c, m)
				}
			}
		}
	}
	d := dice(9)
	for _, p := range primes() {
		for range 20 {
			shared := d.poly(p, 6)
			ask(p, slowMul(p, shared, d.poly(p, 5)), slowMul(p, shared, d.poly(p, 7)))
		}
		ask(p, d.poly(p, 200), d.poly(p, 300))
	}
}

// roomy is a copy with spare room behind it, filled with a mark.
func roomy(a []uint64) []uint64 {
	room := append(slices.Clone(a), slices.Repeat([]uint64{wholeWord}, 600)...)
	return room[:len(a)]
}

func untouched(room, a []uint64) bool {
	all := room[:len(a)+600]
	return slices.Equal(all[:len(a)], a) && !slices.ContainsFunc(all[len(a):], func(x uint64) bool { return x != wholeWord })
}

// What is handed in isn't changed, nor its spare room; an answer shares nothing with it, nor with another list of the answer.
func TestRuleMemory(t *testing.T) {
	d := dice(10)
	for _, p := range []uint64{2, 7, bigPrime} {
		a, b := d.whole(p, 9), d.whole(p, 6)
		product := slowMul(p, a, b)
		monic := d.whole(p, 7)
		monic[6] = 1
		for _, c := range [][2][]uint64{{a, b}, {b, a}, {a, a}, {a, product}, {product, a}, {a, nil}, {nil, a}, {monic, nil}, {nil, monic}, {monic, monic}, {monic, {1}}, {{1}, monic}, {{1}, {1}}, {nil, nil}, {power(1, 3), power(1, 5)}} {
			for _, call := range calls() {
				x, y := roomy(c[0]), roomy(c[1])
				answer, e := call.call(p, x, y)
				if !untouched(x, c[0]) || !untouched(y, c[1]) {
					t.Errorf("%s modulo %d changes what it is given: %v, %v", call.name, p, c[0], c[1])
				}
				if e != api.OK {
					continue
				}
				// Each list, with its spare room, is overwritten: nothing else changes.
				before := make([][]uint64, len(answer))
				for i, l := range answer {
					before[i] = slices.Clone(l)
				}
				for i, l := range answer {
					if !slices.Equal(l, before[i]) {
						t.Errorf("%s modulo %d: two lists share", call.name, p)
					}
					for k := range l[:cap(l)] {
						l[:cap(l)][k] = 99
					}
				}
				if !untouched(x, c[0]) || !untouched(y, c[1]) {
					t.Errorf("%s modulo %d: the answer shares with %v or %v", call.name, p, c[0], c[1])
				}
			}
		}
	}
}

// One list as both arguments is two polynomials that are the same.
func TestRuleSameList(t *testing.T) {
	pairs(func(p uint64, a, _ []uint64) {
		for _, c := range calls() {
			x := slices.Clone(a)
			got, e := c.call(p, x, x)
			want, wantE := c.call(p, a, slices.Clone(a))
			if e != wantE || !slices.EqualFunc(got, want, slices.Equal[[]uint64]) || !slices.Equal(x, a) {
				t.Fatalf("%s(%d, %v): %v, %d, not %v, %d", c.name, p, a, got, e, want, wantE)
			}
		}
	})
}
