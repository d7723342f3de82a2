package series_test

import (
	"math"
	"math/big"
	"math/bits"
	"slices"
	"testing"

	"affidavit/api"
	"affidavit/poly"
	"affidavit/series"
)

const (
	greatest  = math.MaxInt64 // the greatest modulus: 7 * 7 * 73 * 127 * 337 * 92737 * 649657
	bigPrime  = greatest - 24 // the greatest prime below it
	beyond    = api.MostPrime // the least that is too great
	mersenne  = 1<<61 - 1     // a prime
	halfWord  = 1<<32 - 5     // the greatest prime of 32 bits
	wholeWord = math.MaxUint64
)

func wrongModuli() []uint64 {
	return []uint64{0, 1, beyond, beyond + 1, beyond + 25, wholeWord}
}

func primes() []uint64 {
	return []uint64{2, 3, 5, 7, 11, 101, 65537, halfWord, mersenne, bigPrime}
}

func noPrimes() []uint64 {
	return []uint64{4, 6, 8, 9, 12, 15, 30, 1 << 32, 1 << 62, greatest - 1, greatest}
}

func moduli() []uint64 { return append(primes(), noPrimes()...) }

// dice makes numbers that look like chance and are the same each time.
type dice uint64

func (d *dice) word() uint64 {
	*d ^= *d << 13
	*d ^= *d >> 7
	*d ^= *d << 17
	return uint64(*d)
}

// row of just so many numbers, noughts now and then.
func (d *dice) row(p uint64, many int) []uint64 {
	l := make([]uint64, many)
	for i := range l {
		if d.word()%8 != 0 {
			l[i] = d.word() % p
		}
	}
	return l
}

// rule of just this length.
func (d *dice) rule(p uint64, length int) []uint64 {
	return append([]uint64{1}, d.row(p, length)...)
}

// rows of just so many numbers of a small modulus, all of them.
func rows(p uint64, many int) [][]uint64 {
	l := [][]uint64{nil}
	for range many {
		var longer [][]uint64
		for _, row := range l {
			for x := range p {
				longer = append(longer, append(slices.Clone(row), x))
			}
		}
		l = longer
	}
	return l
}

// rules of just this length of a small modulus, all of them.
func rules(p uint64, length int) [][]uint64 {
	l := rows(p, length)
	for i, row := range l {
		l[i] = append([]uint64{1}, row...)
	}
	return l
}

func word(x uint64) *big.Int { return new(big.Int).SetUint64(x) }

// slowSum is the sum of rule[k] times row[i - k], numbers ahead of the row being 0.
func slowSum(p uint64, s, c []uint64, i int) uint64 {
	sum := new(big.Int)
	for k, x := range c {
		if i-k >= 0 {
			sum.Add(sum, new(big.Int).Mul(word(x), word(s[i-k])))
		}
	}
	return sum.Mod(sum, word(p)).Uint64()
}

func slowObeys(p uint64, s, c []uint64) bool {
	for i := len(c) - 1; i < len(s); i++ {
		if slowSum(p, s, c, i) != 0 {
			return false
		}
	}
	return true
}

// slowOn tries what the sum is with a nought, and puts its negative there.
func slowOn(p uint64, s, c []uint64, many int) []uint64 {
	l := slices.Clone(s)
	for range many {
		l = append(l, 0)
		l[len(l)-1] = (p - slowSum(p, l, c, len(l)-1)) % p
	}
	return l
}

// obeyed counts the rules of a length that a row of a small modulus obeys.
func obeyed(p uint64, s []uint64, length int) int {
	count := 0
	for _, c := range rules(p, length) {
		if slowObeys(p, s, c) {
			count++
		}
	}
	return count
}

func TestP4_1Right(t *testing.T) {
	for _, p := range moduli() {
		for _, c := range [][]uint64{{1}, {1, 0}, {1, p - 1}, {1, 1, 1}, {1, 0, 0, p - 1, 0}, append([]uint64{1}, make([]uint64, 256)...), append([]uint64{1}, slices.Repeat([]uint64{p - 1}, 256)...)} {
			if !series.Right(p, c) {
				t.Errorf("%v is one modulo %d", c, p)
			}
		}
		for _, c := range [][]uint64{nil, {}, {0}, {0, 1}, {0, 0, 1}, {p}, {p + 1}, {wholeWord}, {1, p}, {1, p + 1}, {1, 0, wholeWord}, {1, p, 0}, {p + 1, 1}, append([]uint64{1}, make([]uint64, 257)...), append([]uint64{1}, make([]uint64, 100000)...), make([]uint64, 257), append(append([]uint64{1}, make([]uint64, 255)...), p)} {
			if series.Right(p, c) {
				t.Errorf("%v is none modulo %d", c, p)
			}
		}
		if p > 2 && (series.Right(p, []uint64{2}) || series.Right(p, []uint64{p - 1, 1})) {
			t.Errorf("a rule modulo %d begins with 1", p)
		}
	}
	for _, p := range wrongModuli() {
		for _, c := range [][]uint64{nil, {1}, {1, 0}, {1, 1}} {
			if series.Right(p, c) {
				t.Errorf("%d is no modulus: %v", p, c)
			}
		}
	}
}

// wrong is what no call but Right takes: a modulus, a row and a rule, one of which may not be.
type wrong struct {
	p    uint64
	s, c []uint64
}

func wrongs() []wrong {
	var l []wrong
	for _, p := range wrongModuli() {
		l = append(l, wrong{p, nil, []uint64{1}}, wrong{p, []uint64{0, 0}, []uint64{1, 0}})
	}
	for _, p := range moduli() {
		for _, s := range [][]uint64{{p}, {p + 1}, {wholeWord}, {p, 0, 0}, {0, 0, p}, {0, beyond}} {
			l = append(l, wrong{p, s, []uint64{1}}, wrong{p, s, []uint64{1, 0}}, wrong{p, s, []uint64{1, 0, 0, 0, 0, 0}})
		}
		for _, c := range [][]uint64{nil, {}, {0}, {p}, {0, 1}, {p + 1}, {1, p}, {1, 0, wholeWord}, append([]uint64{1}, make([]uint64, 257)...)} {
			l = append(l, wrong{p, nil, c}, wrong{p, []uint64{0}, c}, wrong{p, make([]uint64, 300), c})
		}
	}
	return l
}

func TestP4_1Wrong(t *testing.T) {
	for _, w := range wrongs() {
		if series.Obeys(w.p, w.s, w.c) {
			t.Errorf("Obeys(%d, %v, %v)", w.p, w.s, w.c)
		}
		for _, many := range []int{0, 1, 512} {
			if l, e := series.On(w.p, w.s, w.c, many); e != api.ErrArg || len(l) != 0 {
				t.Errorf("On(%d, %v, %v, %d): %v, %d", w.p, w.s, w.c, many, l, e)
			}
		}
		if series.Right(w.p, w.c) {
			continue // Poly is told of no row
		}
		if f, e := series.Poly(w.p, w.c); e != api.ErrArg || len(f) != 0 {
			t.Errorf("Poly(%d, %v): %v, %d", w.p, w.c, f, e)
		}
	}
	for _, many := range []int{-1, -2, -513, 513, 514, 1 << 40, math.MinInt, math.MaxInt} {
		for _, s := range [][]uint64{nil, {1, 2}} {
			if l, e := series.On(7, s, []uint64{1, 3}, many); e != api.ErrArg || len(l) != 0 {
				t.Errorf("On(7, %v, [1 3], %d): %v, %d", s, many, l, e)
			}
		}
	}
}

func TestP4_1ObeysAllSmall(t *testing.T) {
	for _, c := range []struct {
		p            uint64
		many, length int
	}{{2, 8, 5}, {3, 5, 3}, {4, 4, 2}, {5, 4, 2}, {6, 3, 2}} {
		for many := range c.many + 1 {
			for length := range c.length + 1 {
				for _, s := range rows(c.p, many) {
					for _, r := range rules(c.p, length) {
						if got := series.Obeys(c.p, s, r); got != slowObeys(c.p, s, r) {
							t.Fatalf("Obeys(%d, %v, %v): %t", c.p, s, r, got)
						}
					}
				}
			}
		}
	}
}

// A row that obeys obeys no more, if one of its numbers is changed that a place from the length on is made of: the first and the last too.
func TestP4_1ObeysChanged(t *testing.T) {
	d := dice(88172645463325252)
	for _, p := range moduli() {
		for _, length := range []int{0, 1, 2, 9, 256} {
			c := d.rule(p, length)
			c[length] = 1 // else the first number may be of no weight
			s := slowOn(p, d.row(p, length), c, 40)
			if !series.Obeys(p, s, c) {
				t.Fatalf("%v obeys %v modulo %d", s, c, p)
			}
			for _, i := range []int{0, length, len(s) - 1} {
				changed := slices.Clone(s)
				changed[i] = (changed[i] + 1) % p
				if series.Obeys(p, changed, c) {
					t.Errorf("%v doesn't obey %v modulo %d: place %d", changed, c, p, i)
				}
			}
		}
	}
}

func TestP4_1ObeysKnown(t *testing.T) {
	for _, c := range []struct {
		p    uint64
		s, c []uint64
		want bool
	}{
		{7, []uint64{1, 1, 2, 3, 5, 1}, []uint64{1, 6, 6}, true},
		{7, []uint64{1, 1, 2, 3, 5, 2}, []uint64{1, 6, 6}, false},
		{7, nil, []uint64{1}, true},
		{7, nil, []uint64{1, 2, 3}, true},
		{7, []uint64{0, 0, 0}, []uint64{1}, true},
		{7, []uint64{0, 0, 1}, []uint64{1}, false},
		{7, []uint64{1, 0, 0}, []uint64{1}, false},
		{7, []uint64{1, 0, 0}, []uint64{1, 0}, true}, // the place 0 isn't asked
		{7, []uint64{1, 2, 0}, []uint64{1, 0, 0}, true},
		{7, []uint64{1, 2}, []uint64{1, 0, 0}, true}, // no place is asked
		{7, []uint64{1, 2, 3}, []uint64{1, 0, 0}, false},
		{4, []uint64{2, 2}, []uint64{1, 1}, true},
		{4, []uint64{2, 2}, []uint64{1, 3}, true},
		{greatest, []uint64{1, greatest - 1, 1}, []uint64{1, 1}, true},
	} {
		if got := series.Obeys(c.p, c.s, c.c); got != c.want {
			t.Errorf("Obeys(%d, %v, %v): %t", c.p, c.s, c.c, got)
		}
	}
}

// A row may have any length.
func TestP4_1ObeysLong(t *testing.T) {
	d := dice(2)
	for _, p := range []uint64{2, 7, greatest} {
		c := d.rule(p, 3)
		s := slowOn(p, d.row(p, 3), c, 60000)
		if !series.Obeys(p, s, c) {
			t.Errorf("modulo %d", p)
		}
		s[59999] = (s[59999] + 1) % p
		if series.Obeys(p, s, c) {
			t.Errorf("changed, modulo %d", p)
		}
	}
}

// on asks On, and holds it against the slow way.
func on(t *testing.T, p uint64, s, c []uint64, many int) {
	t.Helper()
	want := slowOn(p, s, c, many)
	if got, e := series.On(p, s, c, many); e != api.OK || !slices.Equal(got, want) {
		t.Fatalf("On(%d, %v, %v, %d): %v, %d, not %v", p, s, c, many, got, e, want)
	}
}

func TestP4_1On(t *testing.T) {
	for _, p := range []uint64{2, 3, 4} {
		for many := range 4 {
			for length := range 4 {
				for _, s := range rows(p, many) {
					for _, c := range rules(p, length) {
						on(t, p, s, c, 5)
					}
				}
			}
		}
	}
	d := dice(3)
	for _, p := range moduli() {
		for _, length := range []int{0, 1, 2, 5, 30} {
			c := d.rule(p, length)
			for _, many := range []int{0, 1, 4, 5, 6, 40} {
				s := d.row(p, many) // which need not obey, nor be as long as the rule
				for _, more := range []int{0, 1, 2, 35} {
					on(t, p, s, c, more)
				}
			}
		}
		on(t, p, d.row(p, 3), d.rule(p, 256), 512)
		on(t, p, d.row(p, 300), d.rule(p, 256), 512)
		on(t, p, d.row(p, 20000), d.rule(p, 2), 512)
	}
}

func TestP4_1OnKnown(t *testing.T) {
	for _, c := range []struct {
		p    uint64
		s, c []uint64
		many int
		want []uint64
	}{
		{7, []uint64{1, 1}, []uint64{1, 6, 6}, 5, []uint64{1, 1, 2, 3, 5, 1, 6}},
		{7, []uint64{1}, []uint64{1, 6, 6}, 3, []uint64{1, 1, 2, 3}}, // a 0 ahead of the row
		{7, nil, []uint64{1, 6}, 3, []uint64{0, 0, 0}},
		{7, nil, []uint64{1, 6}, 0, nil},
		{7, []uint64{4, 5}, []uint64{1}, 2, []uint64{4, 5, 0, 0}},
		{7, []uint64{4, 5}, []uint64{1, 0, 0}, 2, []uint64{4, 5, 0, 0}},
		{7, []uint64{1, 5, 3}, []uint64{1, 5}, 2, []uint64{1, 5, 3, 6, 5}}, // it doesn't obey; from there on it does
		{7, []uint64{1, 5, 3}, []uint64{1, 5}, 0, []uint64{1, 5, 3}},
		{4, []uint64{1}, []uint64{1, 2}, 3, []uint64{1, 2, 0, 0}},
		{greatest, []uint64{1}, []uint64{1, 1}, 3, []uint64{1, greatest - 1, 1, greatest - 1}},
	} {
		if got, e := series.On(c.p, c.s, c.c, c.many); e != api.OK || !slices.Equal(got, c.want) {
			t.Errorf("On(%d, %v, %v, %d): %v, %d", c.p, c.s, c.c, c.many, got, e)
		}
	}
}

func TestP4_1Poly(t *testing.T) {
	for _, c := range []struct {
		p       uint64
		c, want []uint64
	}{
		{7, []uint64{1}, []uint64{1}},
		{7, []uint64{1, 6, 5}, []uint64{5, 6, 1}},
		{7, []uint64{1, 0}, []uint64{0, 1}},
		{7, []uint64{1, 0, 3, 0, 0}, []uint64{0, 0, 3, 0, 1}},
		{2, []uint64{1, 0, 1}, []uint64{1, 0, 1}},
		{greatest, []uint64{1, greatest - 1}, []uint64{greatest - 1, 1}},
	} {
		if got, e := series.Poly(c.p, c.c); e != api.OK || !slices.Equal(got, c.want) {
			t.Errorf("Poly(%d, %v): %v, %d", c.p, c.c, got, e)
		}
	}
	d := dice(4)
	for _, p := range moduli() {
		for _, length := range []int{0, 1, 2, 7, 255, 256} {
			for range 5 {
				c := d.rule(p, length)
				f, e := series.Poly(p, c)
				if e != api.OK || len(f) != length+1 || f[length] != 1 || !poly.Right(p, f) {
					t.Fatalf("Poly(%d, %v): %v, %d", p, c, f, e)
				}
				for k, x := range c {
					if f[length-k] != x {
						t.Fatalf("Poly(%d, %v): %v, power %d", p, c, f, length-k)
					}
				}
			}
		}
	}
}

// rule asks Rule where all is well: it answers a rule, and the row obeys it.
func rule(t *testing.T, p uint64, s []uint64) []uint64 {
	t.Helper()
	c, e := series.Rule(p, s)
	if e != api.OK || !series.Right(p, c) || !slowObeys(p, s, c) {
		t.Fatalf("Rule(%d, %v): %v, %d", p, s, c, e)
	}
	return c
}

func TestP4_2RuleKnown(t *testing.T) {
	for _, c := range []struct {
		p    uint64
		s, c []uint64
	}{
		{7, []uint64{1, 1, 2, 3, 5, 1}, []uint64{1, 6, 6}},
		{7, []uint64{1, 1, 2, 3}, []uint64{1, 6, 6}},
		{7, nil, []uint64{1}},
		{7, []uint64{}, []uint64{1}},
		{7, []uint64{0}, []uint64{1}},
		{7, []uint64{0, 0, 0}, []uint64{1}},
		{7, make([]uint64, 256), []uint64{1}},
		{7, []uint64{1, 2, 4, 1, 2, 4}, []uint64{1, 5}},
		{7, []uint64{3, 0}, []uint64{1, 0}}, // a nought at its end is one of the rule's numbers
		{7, []uint64{3, 0, 0, 0}, []uint64{1, 0}},
		{7, []uint64{3, 1, 0, 0}, []uint64{1, 0, 0}},
		{7, []uint64{0, 1, 0, 0}, []uint64{1, 0, 0}},
		{2, []uint64{1, 0, 1, 0}, []uint64{1, 0, 1}},
		{101, []uint64{5, 5, 5}, []uint64{1, 100}},
		{bigPrime, []uint64{1, bigPrime - 1}, []uint64{1, 1}},
		{6, []uint64{5, 1, 5}, []uint64{1, 1}},
		{4, []uint64{0, 0}, []uint64{1}},
		{4, []uint64{1, 2, 0, 0}, []uint64{1, 2}},
		{greatest, []uint64{1, 7, 49, 343}, []uint64{1, greatest - 7}},
	} {
		if got := rule(t, c.p, c.s); !slices.Equal(got, c.c) {
			t.Errorf("Rule(%d, %v): %v", c.p, c.s, got)
		}
	}
}

// The longest rule that may be: all but the last number are 0.
func TestP4_2RuleLongest(t *testing.T) {
	for _, p := range primes() {
		for many := 1; many <= 256; many += 51 {
			s := make([]uint64, many)
			s[many-1] = p - 1
			if c := rule(t, p, s); len(c) != many+1 {
				t.Errorf("Rule of %d numbers modulo %d: %v", many, p, c)
			}
		}
	}
}

func TestP4_2RuleWrong(t *testing.T) {
	nothing := func(p uint64, s []uint64, want api.Errno) {
		t.Helper()
		if c, e := series.Rule(p, s); e != want || len(c) != 0 {
			t.Errorf("Rule(%d, %v): %v, %d, not %d", p, s, c, e, want)
		}
	}
	for _, p := range wrongModuli() {
		for _, s := range [][]uint64{nil, {0}, {0, 0}, make([]uint64, 257)} {
			nothing(p, s, api.ErrArg)
		}
	}
	for _, p := range moduli() {
		for _, s := range [][]uint64{{p}, {p + 1}, {wholeWord}, {0, 1, p}, {p, 1, 0}, append(make([]uint64, 255), p)} {
			nothing(p, s, api.ErrArg)
		}
		nothing(p, append(make([]uint64, 256), p), api.ErrArg) // ahead of ErrLong
		for _, many := range []int{257, 258, 512, 100000} {
			nothing(p, make([]uint64, many), api.ErrLong)
		}
		nothing(p, slices.Repeat([]uint64{1}, 257), api.ErrLong)
	}
	nothing(4, append([]uint64{2, 1, 1}, make([]uint64, 254)...), api.ErrLong) // ahead of ErrZero
	nothing(4, append([]uint64{2, 1, 1}, make([]uint64, 253)...), api.ErrZero)
	nothing(4, []uint64{2, 1, 1}, api.ErrZero)
	nothing(4, []uint64{2, 1, 3}, api.ErrZero)
	nothing(4, []uint64{0, 2, 0, 2}, api.ErrZero)
	nothing(6, []uint64{3, 1}, api.ErrZero)
	nothing(6, []uint64{1, 0, 2, 1}, api.ErrZero)
	nothing(9, []uint64{1, 1, 4, 1}, api.ErrZero)
	nothing(greatest, []uint64{127, 1}, api.ErrZero)
}

// slowRule is Massey's way as it is mostly written, with the rules' numbers beyond their lengths being 0. It tells whether each number by which it is to divide has an Inv.
func slowRule(p uint64, s []uint64) (rule []uint64, has bool) {
	m := word(p)
	now, older := []*big.Int{word(1)}, []*big.Int{word(1)}
	length, since, failure := 0, 1, word(1)
	for n := range s {
		sum := new(big.Int)
		for k, x := range now[:min(len(now), length+1)] {
			sum.Add(sum, new(big.Int).Mul(x, word(s[n-k])))
		}
		sum.Mod(sum, m)
		if sum.Sign() == 0 {
			since++
			continue
		}
		inverse := new(big.Int).ModInverse(failure, m)
		if inverse == nil {
			return nil, false
		}
		var next []*big.Int
		for k := range max(len(now), len(older)+since) {
			x := new(big.Int)
			if k < len(now) {
				x.Set(now[k])
			}
			if k >= since && k-since < len(older) {
				y := new(big.Int).Mul(sum, inverse)
				x.Sub(x, y.Mul(y, older[k-since]))
			}
			next = append(next, x.Mod(x, m))
		}
		if 2*length <= n {
			older, failure, since, length = now, sum, 1, n+1-length
		} else {
			since++
		}
		now = next
	}
	rule = make([]uint64, length+1)
	for k := range min(len(now), length+1) {
		rule[k] = now[k].Uint64()
	}
	return rule, true
}

// Where p isn't prime, the answer is of the least length too; or a number had no Inv.
func TestP4_2RuleNoPrime(t *testing.T) {
	for _, c := range []struct {
		p    uint64
		many int
	}{{4, 6}, {6, 4}, {8, 4}, {9, 4}} {
		fine, failed := 0, 0
		for many := range c.many + 1 {
			for _, s := range rows(c.p, many) {
				if _, has := slowRule(c.p, s); !has {
					failed++
					if got, e := series.Rule(c.p, s); e != api.ErrZero || len(got) != 0 {
						t.Fatalf("Rule(%d, %v): %v, %d", c.p, s, got, e)
					}
					continue
				}
				fine++
				got := rule(t, c.p, s)
				if length := len(got) - 1; length > 0 && obeyed(c.p, s, length-1) > 0 {
					t.Fatalf("Rule(%d, %v): %v, though there is a shorter one", c.p, s, got)
				}
			}
		}
		if fine == 0 || failed == 0 {
			t.Errorf("modulo %d: %d are fine, %d failed", c.p, fine, failed)
		}
	}
	d := dice(5)
	for _, p := range noPrimes() {
		for range 300 {
			s := d.row(p, int(d.word()%12))
			want, has := slowRule(p, s)
			if !has {
				if got, e := series.Rule(p, s); e != api.ErrZero || len(got) != 0 {
					t.Fatalf("Rule(%d, %v): %v, %d", p, s, got, e)
				}
			} else if got := rule(t, p, s); len(got) != len(want) {
				t.Fatalf("Rule(%d, %v): %v, not %v", p, s, got, want)
			}
		}
	}
}

// Of all rows of small primes: no shorter rule is obeyed, and where twice the length isn't above how many numbers there are, just this one of its length is.
func TestP4_3AllSmall(t *testing.T) {
	for _, c := range []struct {
		p    uint64
		many int
	}{{2, 9}, {3, 6}, {5, 4}, {7, 3}} {
		for many := range c.many + 1 {
			for _, s := range rows(c.p, many) {
				got := rule(t, c.p, s)
				length := len(got) - 1
				for shorter := range length {
					if obeyed(c.p, s, shorter) > 0 {
						t.Fatalf("Rule(%d, %v): %v, though there is one of length %d", c.p, s, got, shorter)
					}
				}
				if 2*length <= many && obeyed(c.p, s, length) != 1 {
					t.Fatalf("Rule(%d, %v): %v, though there are others", c.p, s, got)
				}
			}
		}
	}
}

// solutions tells whether any rule of a length is obeyed, and whether just one is, p being prime: by the equations that the row makes.
func solutions(p uint64, s []uint64, length int) (some, one bool) {
	var l [][]uint64
	for i := length; i < len(s); i++ {
		equation := slices.Clone(s[i-length : i+1])
		l = append(l, equation) // what the rule's numbers, from the last one on, make it
	}
	rank := 0
	for column := range length + 1 {
		at := slices.IndexFunc(l[rank:], func(e []uint64) bool { return e[column] != 0 })
		if at < 0 {
			continue
		}
		if column == length {
			return false, false
		}
		l[rank], l[rank+at] = l[rank+at], l[rank]
		inverse := new(big.Int).ModInverse(word(l[rank][column]), word(p)).Uint64()
		for _, e := range l[rank+1:] {
			times := product(p, e[column], inverse)
			for k := column; k <= length; k++ {
				e[k] = (e[k] + p - product(p, times, l[rank][k])) % p
			}
		}
		rank++
	}
	return true, rank == length
}

func product(p, a, b uint64) uint64 {
	high, low := bits.Mul64(a, b)
	return bits.Rem64(high, low, p)
}

// least holds Rule against the equations: a rule of one less would be obeyed, if any shorter one were (with noughts behind it).
func least(t *testing.T, p uint64, s []uint64) []uint64 {
	t.Helper()
	got := rule(t, p, s)
	length := len(got) - 1
	if length > 0 {
		if some, _ := solutions(p, s, length-1); some {
			t.Fatalf("Rule(%d, %v): %v, though there is a shorter one", p, s, got)
		}
	}
	if some, one := solutions(p, s, length); !some || !one && 2*length <= len(s) {
		t.Fatalf("Rule(%d, %v): %v, %t %t", p, s, got, some, one)
	}
	return got
}

func TestP4_3EachPrime(t *testing.T) {
	d := dice(6)
	for _, p := range primes() {
		for range 40 {
			s := d.row(p, int(d.word()%26))
			least(t, p, s)
			least(t, p, append(make([]uint64, d.word()%12), s...))
			least(t, p, append(s, make([]uint64, d.word()%12)...))
			// A row that obeys a rule, from somewhere on.
			c := d.rule(p, int(d.word()%9))
			length := len(c) - 1
			s = slowOn(p, d.row(p, length+int(d.word()%4)), c, 2*length)
			least(t, p, s)
			least(t, p, append(s, d.row(p, 3)...))
		}
	}
}

// So long as may be: a rule of length 128 by 256 numbers, and of 256 numbers any.
func TestP4_3Long(t *testing.T) {
	d := dice(7)
	for _, p := range []uint64{halfWord, mersenne, bigPrime} {
		for _, length := range []int{1, 64, 127, 128} {
			c := d.rule(p, length)
			c[length] = 1
			s := slowOn(p, d.row(p, length), c, 256-length)
			if some, one := solutions(p, s, length); !some || !one {
				t.Fatalf("%v modulo %d has another rule", s, p)
			}
			if got := least(t, p, s); !slices.Equal(got, c) {
				t.Errorf("Rule of length %d modulo %d: %v, not %v", length, p, got, c)
			}
			least(t, p, s[:255])
		}
	}
	for _, p := range []uint64{2, 7, bigPrime} {
		least(t, p, d.row(p, 256))
		least(t, p, d.row(p, 255))
		least(t, p, append(make([]uint64, 200), d.row(p, 56)...))
	}
}

// The rule takes the row on, and its polynomial is the rule's numbers.
func TestP4_3RuleTakesOn(t *testing.T) {
	d := dice(8)
	for _, p := range primes() {
		for range 20 {
			c := d.rule(p, int(d.word()%10))
			length := len(c) - 1
			s := slowOn(p, d.row(p, length), c, 100)
			got := rule(t, p, s[:2*length])
			if l, e := series.On(p, s[:2*length], got, 100-length); e != api.OK || !slices.Equal(l, s) {
				t.Errorf("On(%d, %v, %v): %v, %d, not %v", p, s[:2*length], got, l, e, s)
			}
		}
	}
}

// roomy is a copy with spare room behind it, filled with a mark.
func roomy(a []uint64) []uint64 {
	room := append(slices.Clone(a), slices.Repeat([]uint64{wholeWord}, 600)...)
	return room[:len(a)]
}

func untouched(room, a []uint64) bool {
	all := room[:len(a)+600]
	return slices.Equal(all[:len(a)], a) && !slices.ContainsFunc(all[len(a):], func(x uint64) bool { return x != wholeWord })
}

// What is handed in isn't changed, nor its spare room, and an answer shares nothing with it.
func TestRuleMemory(t *testing.T) {
	d := dice(9)
	for _, p := range []uint64{2, 7, bigPrime} {
		for _, length := range []int{0, 1, 2, 8} {
			for _, many := range []int{0, 1, 2, 20} {
				s, c := d.row(p, many), d.rule(p, length)
				for i, call := range []func(s, c []uint64) ([]uint64, api.Errno){
					func(s, c []uint64) ([]uint64, api.Errno) { return series.On(p, s, c, 0) },
					func(s, c []uint64) ([]uint64, api.Errno) { return series.On(p, s, c, 9) },
					func(s, c []uint64) ([]uint64, api.Errno) { return series.Rule(p, s) },
					func(s, c []uint64) ([]uint64, api.Errno) { return series.Poly(p, c) },
					func(s, c []uint64) ([]uint64, api.Errno) {
						series.Obeys(p, s, c)
						series.Right(p, c)
						return nil, api.OK
					},
				} {
					x, y := roomy(s), roomy(c)
					answer, e := call(x, y)
					if e != api.OK || !untouched(x, s) || !untouched(y, c) {
						t.Errorf("call %d changes what it is given: %d, %v, %v, %d", i, p, s, c, e)
					}
					answer = answer[:cap(answer)]
					for k := range answer {
						answer[k] = 99
					}
					if !untouched(x, s) || !untouched(y, c) {
						t.Errorf("call %d: the answer shares with %v or %v modulo %d", i, s, c, p)
					}
				}
			}
		}
	}
}

// A row and a rule may be one list, and a call answers the same each time.
func TestRuleSameList(t *testing.T) {
	d := dice(10)
	for _, p := range moduli() {
		for range 20 {
			c := d.rule(p, int(d.word()%8))
			l := slices.Clone(c)
			if series.Obeys(p, l, l) != slowObeys(p, c, c) {
				t.Errorf("Obeys(%d, %v, %v)", p, l, l)
			}
			on(t, p, l, l, 10)
			first, e := series.Rule(p, l)
			if again, e2 := series.Rule(p, l); e != e2 || !slices.Equal(first, again) || !slices.Equal(l, c) {
				t.Errorf("Rule(%d, %v): %v, %d, then %v, %d", p, l, first, e, again, e2)
			}
		}
	}
}
