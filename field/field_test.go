package field_test

import (
	"math"
	"math/big"
	"slices"
	"testing"

	"affidavit/api"
	"affidavit/field"
)

const (
	greatest  = math.MaxInt64  // the greatest modulus: 7 * 7 * 73 * 127 * 337 * 92737 * 649657
	bigPrime  = greatest - 24  // the greatest prime below it
	beyond    = api.MostPrime  // the least that is too great
	mersenne  = 1<<61 - 1      // a prime
	halfWord  = 1<<32 - 5      // the greatest prime of 32 bits
	wholeWord = math.MaxUint64 // the greatest word
)

type operation func(p, a, b uint64) (uint64, api.Errno)

type outcome struct {
	x uint64
	e api.Errno
}

func of(x uint64, e api.Errno) outcome { return outcome{x, e} }

func word(x uint64) *big.Int { return new(big.Int).SetUint64(x) }

// reduced is what is left of a number modulo p, from 0 on.
func reduced(p uint64, x *big.Int) uint64 {
	return new(big.Int).Mod(x, word(p)).Uint64()
}

func wrongModuli() []uint64 {
	return []uint64{0, 1, beyond, beyond + 1, beyond + 25, wholeWord - 1, wholeWord}
}

func bigModuli() []uint64 {
	return []uint64{halfWord, 1 << 32, 1<<32 + 15, mersenne, 1 << 62, bigPrime, greatest - 1, greatest}
}

// numbers of a modulus: all of a small one; else its edges, powers of 2, what lies beside them, and some between.
func numbers(p uint64) []uint64 {
	var l []uint64
	if p <= 40 {
		for a := range p {
			l = append(l, a)
		}
		return l
	}
	for _, a := range []uint64{0, 1, 2, 3, 7, p / 3, p/2 - 1, p / 2, p/2 + 1, p - 7, p - 3, p - 2, p - 1, 1<<31 - 1, 1 << 31, 1<<32 - 1, 1 << 32, 1<<32 + 1, 1 << 61, 1<<62 + 1} {
		l = append(l, a%p)
	}
	a := uint64(88172645463325252)
	for range 12 {
		a ^= a << 13
		a ^= a >> 7
		a ^= a << 17
		l = append(l, a%p)
	}
	return l
}

func moduli() []uint64 {
	l := bigModuli()
	for p := uint64(2); p <= 32; p++ {
		l = append(l, p)
	}
	return l
}

// pairs asks an operation and a rule the same of all pairs of numbers of all moduli.
func pairs(t *testing.T, name string, do operation, rule func(p, a, b uint64) outcome) {
	t.Helper()
	for _, p := range moduli() {
		for _, a := range numbers(p) {
			for _, b := range numbers(p) {
				if got, want := of(do(p, a, b)), rule(p, a, b); got != want {
					t.Fatalf("%s(%d, %d, %d): %v, not %v", name, p, a, b, got, want)
				}
			}
		}
	}
}

// refuses asks an operation for what may not be: wrong moduli, and numbers at and beyond the modulus.
func refuses(t *testing.T, name string, do operation) {
	t.Helper()
	ask := func(p, a, b uint64) {
		t.Helper()
		if got := of(do(p, a, b)); got != (outcome{0, api.ErrArg}) {
			t.Errorf("%s(%d, %d, %d): %v", name, p, a, b, got)
		}
	}
	for _, p := range wrongModuli() {
		ask(p, 0, 0)
		ask(p, 0, 1)
		ask(p, 1, 1)
		ask(p, p, p)
	}
	for _, p := range []uint64{2, 7, 12, halfWord, bigPrime, greatest} {
		for _, x := range []uint64{p, p + 1, 2*p + 1, beyond, wholeWord} {
			ask(p, x, 0)
			ask(p, x, 1)
			ask(p, 0, x)
			ask(p, 1, x)
			ask(p, x, x)
		}
	}
}

func TestP1_1Right(t *testing.T) {
	for _, p := range append(moduli(), 1<<63-1) {
		if !field.Right(p) {
			t.Errorf("%d may be", p)
		}
	}
	for _, p := range wrongModuli() {
		if field.Right(p) {
			t.Errorf("%d may not be", p)
		}
	}
}

func TestP1_1Has(t *testing.T) {
	for _, p := range moduli() {
		if !field.Has(p) || !field.Has(p, nil...) || !field.Has(p, 0) || !field.Has(p, p-1) || !field.Has(p, numbers(p)...) {
			t.Errorf("%d has its numbers, and none", p)
		}
		for _, x := range []uint64{p, p + 1, wholeWord} {
			if field.Has(p, x) || field.Has(p, x, 0) || field.Has(p, 0, x, 1) || field.Has(p, 0, 1, x) {
				t.Errorf("%d has no %d", p, x)
			}
		}
	}
	for _, p := range wrongModuli() {
		if field.Has(p) || field.Has(p, []uint64{}...) || field.Has(p, 0) || field.Has(p, 0, 1) {
			t.Errorf("%d has nothing", p)
		}
	}
}

func TestP1_1Norm(t *testing.T) {
	for _, p := range moduli() {
		for _, a := range append(numbers(p), p, p+1, 2*p-1, 2*p, beyond, wholeWord-1, wholeWord) {
			want := outcome{reduced(p, word(a)), api.OK}
			if got := of(field.Norm(p, a)); got != want {
				t.Errorf("Norm(%d, %d): %v, not %v", p, a, got, want)
			}
		}
	}
	for _, p := range wrongModuli() {
		for _, a := range []uint64{0, 1, 5, wholeWord} {
			if got := of(field.Norm(p, a)); got != (outcome{0, api.ErrArg}) {
				t.Errorf("Norm(%d, %d): %v", p, a, got)
			}
		}
	}
}

func TestP1_1Add(t *testing.T) {
	pairs(t, "Add", field.Add, func(p, a, b uint64) outcome {
		return outcome{reduced(p, new(big.Int).Add(word(a), word(b))), api.OK}
	})
	refuses(t, "Add", field.Add)
}

func TestP1_1Sub(t *testing.T) {
	pairs(t, "Sub", field.Sub, func(p, a, b uint64) outcome {
		return outcome{reduced(p, new(big.Int).Sub(word(a), word(b))), api.OK}
	})
	refuses(t, "Sub", field.Sub)
}

func TestP1_1Mul(t *testing.T) {
	pairs(t, "Mul", field.Mul, func(p, a, b uint64) outcome {
		return outcome{reduced(p, new(big.Int).Mul(word(a), word(b))), api.OK}
	})
	refuses(t, "Mul", field.Mul)
}

func TestP1_1Pow(t *testing.T) {
	for _, p := range moduli() {
		for _, a := range numbers(p) {
			for _, n := range []uint64{0, 1, 2, 3, 4, 5, 10, 63, 64, p - 1, p, p + 1, 1 << 32, beyond, wholeWord - 1, wholeWord} {
				want := outcome{new(big.Int).Exp(word(a), word(n), word(p)).Uint64(), api.OK}
				if got := of(field.Pow(p, a, n)); got != want {
					t.Fatalf("Pow(%d, %d, %d): %v, not %v", p, a, n, got, want)
				}
			}
		}
	}
}

func TestP1_1PowRefuses(t *testing.T) {
	for _, n := range []uint64{0, 1, 2, wholeWord} {
		for _, p := range wrongModuli() {
			for _, a := range []uint64{0, 1, 2} {
				if got := of(field.Pow(p, a, n)); got != (outcome{0, api.ErrArg}) {
					t.Errorf("Pow(%d, %d, %d): %v", p, a, n, got)
				}
			}
		}
		for _, p := range []uint64{2, 7, bigPrime, greatest} {
			for _, a := range []uint64{p, p + 1, wholeWord} {
				if got := of(field.Pow(p, a, n)); got != (outcome{0, api.ErrArg}) {
					t.Errorf("Pow(%d, %d, %d): %v", p, a, n, got)
				}
			}
		}
	}
}

// inverse is a's Inv by another way.
func inverse(p, a uint64) outcome {
	x := new(big.Int).ModInverse(word(a), word(p))
	if x == nil {
		return outcome{0, api.ErrZero}
	}
	return outcome{x.Uint64(), api.OK}
}

func TestP1_2Inv(t *testing.T) {
	for _, p := range moduli() {
		for _, a := range numbers(p) {
			if got, want := of(field.Inv(p, a)), inverse(p, a); got != want {
				t.Errorf("Inv(%d, %d): %v, not %v", p, a, got, want)
			}
		}
	}
	for _, c := range []struct {
		p, a uint64
		want outcome
	}{
		{2, 1, outcome{1, api.OK}},
		{2, 0, outcome{0, api.ErrZero}},
		{7, 5, outcome{3, api.OK}},
		{12, 8, outcome{0, api.ErrZero}},
		{greatest, greatest - 1, outcome{greatest - 1, api.OK}},
		{greatest, 2, outcome{1 << 62, api.OK}},
		{greatest, 7, outcome{0, api.ErrZero}},
		{greatest, 649657, outcome{0, api.ErrZero}},
		{greatest - 1, greatest - 3, outcome{0, api.ErrZero}},
	} {
		if got := of(field.Inv(c.p, c.a)); got != c.want {
			t.Errorf("Inv(%d, %d): %v, not %v", c.p, c.a, got, c.want)
		}
	}
	refuses(t, "Inv", func(p, a, b uint64) (uint64, api.Errno) {
		if a < p {
			a = b
		}
		return field.Inv(p, a)
	})
}

func TestP1_2Div(t *testing.T) {
	pairs(t, "Div", field.Div, func(p, a, b uint64) outcome {
		c := inverse(p, b)
		if c.e != api.OK {
			return c
		}
		return outcome{reduced(p, new(big.Int).Mul(word(a), word(c.x))), api.OK}
	})
	refuses(t, "Div", field.Div)
	for _, c := range []struct {
		p, a, b uint64
		want    outcome
	}{
		{7, 3, 5, outcome{2, api.OK}},
		{7, 0, 0, outcome{0, api.ErrZero}},
		{12, 8, 4, outcome{0, api.ErrZero}}, // 4 times 2 is 8, but 4 has no Inv
		{12, 0, 6, outcome{0, api.ErrZero}},
		{12, 12, 6, outcome{0, api.ErrArg}}, // ErrArg goes ahead
		{7, 7, 0, outcome{0, api.ErrArg}},
	} {
		if got := of(field.Div(c.p, c.a, c.b)); got != c.want {
			t.Errorf("Div(%d, %d, %d): %v, not %v", c.p, c.a, c.b, got, c.want)
		}
	}
}

func dotRule(p uint64, a, b []uint64) outcome {
	sum := new(big.Int)
	for i := range a {
		sum.Add(sum, new(big.Int).Mul(word(a[i]), word(b[i])))
	}
	return outcome{reduced(p, sum), api.OK}
}

func TestP1_2Dot(t *testing.T) {
	for _, p := range moduli() {
		a := numbers(p)
		b := numbers(p)
		slices.Reverse(b)
		for n := range a {
			if got, want := of(field.Dot(p, a[:n+1], b[:n+1])), dotRule(p, a[:n+1], b[:n+1]); got != want {
				t.Errorf("Dot modulo %d, of %d: %v, not %v", p, n+1, got, want)
			}
		}
		// As great as can be, for so long that the sum is of more than two words.
		for _, n := range []int{2, 3, 4, 5, 8, 9, 64, 1000} {
			m := slices.Repeat([]uint64{p - 1}, n)
			if got, want := of(field.Dot(p, m, m)), dotRule(p, m, m); got != want {
				t.Errorf("Dot modulo %d, of %d times the greatest: %v, not %v", p, n, got, want)
			}
		}
		if got := of(field.Dot(p, nil, []uint64{})); got != (outcome{0, api.OK}) {
			t.Errorf("Dot of no numbers modulo %d: %v", p, got)
		}
	}
}

func TestP1_2DotRefuses(t *testing.T) {
	for i, c := range []struct {
		p    uint64
		a, b []uint64
	}{
		{7, []uint64{1}, nil},
		{7, nil, []uint64{0}},
		{7, []uint64{1, 2}, []uint64{1, 2, 0}},
		{7, []uint64{1, 2, 0}, []uint64{1, 2}},
		{7, []uint64{7}, []uint64{0}},
		{7, []uint64{0}, []uint64{7}},
		{7, []uint64{7, 1, 1}, []uint64{1, 1, 1}},
		{7, []uint64{1, 1, 1}, []uint64{1, 1, wholeWord}},
		{7, []uint64{1, 1, 8}, []uint64{1, 1}},
		{greatest, []uint64{0, greatest}, []uint64{1, 0}},
		{greatest, []uint64{0, 1}, []uint64{1, beyond}},
		{2, []uint64{2}, []uint64{2}},
	} {
		if got := of(field.Dot(c.p, c.a, c.b)); got != (outcome{0, api.ErrArg}) {
			t.Error(i, got)
		}
	}
	for _, p := range wrongModuli() {
		if got := of(field.Dot(p, nil, nil)); got != (outcome{0, api.ErrArg}) {
			t.Errorf("Dot of nothing modulo %d: %v", p, got)
		}
		if got := of(field.Dot(p, []uint64{0, 0}, []uint64{0, 0})); got != (outcome{0, api.ErrArg}) {
			t.Errorf("Dot modulo %d: %v", p, got)
		}
	}
}

// Lists that are handed in stay as they are, and so does what lies behind them.
func TestListsStay(t *testing.T) {
	room := []uint64{1, 2, 3, 4, 5, 6}
	kept := slices.Clone(room)
	other := []uint64{6, 5, 4, 3, 2, 1}
	keptOther := slices.Clone(other)
	field.Has(7, room[:3]...)
	field.Has(2, room[:3]...)
	field.Dot(7, room[:3], other[:3])
	field.Dot(7, room[:3], other[:2])
	field.Dot(7, room[:3], room[:3])
	field.Dot(5, room, other)
	if !slices.Equal(room, kept) || !slices.Equal(other, keptOther) {
		t.Error(room, other)
	}
}

// law is a calculator that stops the test at any error.
type law struct {
	t *testing.T
	p uint64
}

func (l law) do(f operation, a, b uint64) uint64 {
	x, e := f(l.p, a, b)
	if e != api.OK || x >= l.p {
		l.t.Fatalf("modulo %d, of %d and %d: %d, %d", l.p, a, b, x, e)
	}
	return x
}

func (l law) add(a, b uint64) uint64 { return l.do(field.Add, a, b) }
func (l law) sub(a, b uint64) uint64 { return l.do(field.Sub, a, b) }
func (l law) mul(a, b uint64) uint64 { return l.do(field.Mul, a, b) }

func (l law) ofTwo(a, b uint64) bool {
	return l.add(a, b) == l.add(b, a) && l.mul(a, b) == l.mul(b, a) &&
		l.add(l.sub(a, b), b) == a && l.sub(a, b) == l.add(a, l.sub(0, b)) &&
		l.add(a, 0) == a && l.mul(a, 1) == a && l.mul(a, 0) == 0 && l.sub(a, a) == 0
}

func (l law) ofThree(a, b, c uint64) bool {
	return l.add(l.add(a, b), c) == l.add(a, l.add(b, c)) &&
		l.mul(l.mul(a, b), c) == l.mul(a, l.mul(b, c)) &&
		l.mul(a, l.add(b, c)) == l.add(l.mul(a, b), l.mul(a, c)) &&
		l.mul(l.add(a, b), c) == l.add(l.mul(a, c), l.mul(b, c))
}

func TestP1_3Ring(t *testing.T) {
	for _, p := range append(bigModuli(), 2, 3, 4, 5, 6, 7, 8, 9, 10, 11, 12) {
		l := law{t, p}
		ns := numbers(p)
		for _, a := range ns {
			for _, b := range ns {
				if !l.ofTwo(a, b) {
					t.Fatalf("modulo %d, of %d and %d", p, a, b)
				}
				for _, c := range ns {
					if !l.ofThree(a, b, c) {
						t.Fatalf("modulo %d, of %d, %d and %d", p, a, b, c)
					}
				}
			}
		}
	}
}

func TestP1_3Inverses(t *testing.T) {
	for _, p := range moduli() {
		for _, a := range numbers(p) {
			alone := new(big.Int).GCD(nil, nil, word(a), word(p)).Cmp(word(1)) == 0
			x, e := field.Inv(p, a)
			if alone != (e == api.OK) || !alone && (x != 0 || e != api.ErrZero) {
				t.Errorf("Inv(%d, %d): %d, %d", p, a, x, e)
			}
			if alone && (law{t, p}).mul(a, x) != 1 {
				t.Errorf("%d times %d isn't 1 modulo %d", a, x, p)
			}
		}
	}
	// All but 0, of a prime; and what is divided and multiplied again is as it was.
	for _, p := range []uint64{2, 3, 5, 7, 31, halfWord, mersenne, bigPrime} {
		for _, b := range numbers(p) {
			for _, a := range numbers(p) {
				if b == 0 {
					continue
				}
				l := law{t, p}
				if l.mul(l.do(field.Div, a, b), b) != a {
					t.Fatalf("modulo %d, %d by %d", p, a, b)
				}
			}
		}
	}
}

// Laws that lean on a number's power: Fermat's, and that powers add up.
func TestP1_3Powers(t *testing.T) {
	for _, p := range []uint64{2, 3, 5, 7, 31, halfWord, mersenne, bigPrime} {
		l := law{t, p}
		for _, a := range numbers(p) {
			if l.do(field.Pow, a, p) != a {
				t.Errorf("%d, %d times, modulo %d", a, p, p)
			}
			if got := of(field.Inv(p, a)); a != 0 && got != of(field.Pow(p, a, p-2)) {
				t.Errorf("Inv(%d, %d): %v", p, a, got)
			}
			if l.mul(l.do(field.Pow, a, 20), l.do(field.Pow, a, 17)) != l.do(field.Pow, a, 37) {
				t.Errorf("powers of %d modulo %d", a, p)
			}
		}
	}
}
