package own_test

import (
	"math"
	"math/bits"
	"slices"
	"testing"

	"affidavit/api"
	"affidavit/field"
	"affidavit/krylov"
	"affidavit/own"
	"affidavit/poly"
	"affidavit/solve"
)

const (
	greatest  = math.MaxInt64 // the greatest modulus: 7 * 7 * 73 * 127 * 337 * 92737 * 649657
	bigPrime  = greatest - 24 // the greatest prime below it
	beyond    = api.MostPrime // the least that is too great
	mersenne  = 1<<61 - 1     // a prime
	halfWord  = 1<<32 - 5     // the greatest prime of 32 bits
	wholeWord = math.MaxUint64
)

func primes() []uint64 { return []uint64{2, 3, 5, 7, 101, 65537, halfWord, mersenne, bigPrime} }

func others() []uint64 { return []uint64{4, 6, 9, 15, 1 << 32, greatest - 1, greatest} }

func wrongModuli() []uint64 {
	return []uint64{0, 1, beyond, beyond + 1, beyond + 25, wholeWord}
}

// wrongSides are numbers that no matrix has of rows.
func wrongSides() []int {
	return []int{0, -1, -2, 65, 66, 1 << 20, 1<<32 + 2, math.MinInt, math.MaxInt}
}

// dice makes numbers that look like chance and are the same each time.
type dice uint64

func (d *dice) word() uint64 {
	*d ^= *d << 13
	*d ^= *d >> 7
	*d ^= *d << 17
	return uint64(*d)
}

func (d *dice) below(n int) int { return int(d.word() % uint64(n)) }

// list of just so many numbers, noughts and the greatest now and then.
func (d *dice) list(p uint64, many int) []uint64 {
	l := make([]uint64, many)
	for i := range l {
		switch d.word() % 6 {
		case 0:
		case 1:
			l[i] = p - 1
		default:
			l[i] = d.word() % p
		}
	}
	return l
}

func (d *dice) mat(p uint64, n int) api.Mat {
	return api.Mat{Rows: n, Cols: n, Cells: d.list(p, n*n)}
}

// polynomial of so many terms: the last one isn't 0.
func (d *dice) polynomial(p uint64, terms int) []uint64 {
	f := d.list(p, terms)
	if terms > 0 {
		f[terms-1] = 1 + d.word()%(p-1)
	}
	return f
}

func (d *dice) monic(p uint64, degree int) []uint64 { return append(d.list(p, degree), 1) }

// claim of the shape, of any such F and H. Now and then T has F's degree.
func (d *dice) claim(p uint64, n int) api.Own {
	c := api.Own{F: d.monic(p, 1+d.below(n)), H: []uint64{1}, T: []uint64{1}, U: d.list(p, n), V: d.list(p, n)}
	for range 9 {
		h := d.polynomial(p, d.below(len(c.F)))
		if g, s, t, e := poly.Bezout(p, c.F, h); e == api.OK && slices.Equal(g, []uint64{1}) {
			c.H, c.S, c.T = h, s, t
			break
		}
	}
	return shifted(p, c, d.list(p, 1)[0])
}

// shifted claim: k times H more in S, and k times F less in T. So they make 1 as they did.
func shifted(p uint64, c api.Own, k uint64) api.Own {
	c.S = plus(p, c.S, mulPoly(p, []uint64{k}, c.H))
	c.T = plus(p, c.T, mulPoly(p, []uint64{(p - k) % p}, c.F))
	return c
}

func copied(c api.Own) api.Own {
	return api.Own{F: slices.Clone(c.F), H: slices.Clone(c.H), S: slices.Clone(c.S), T: slices.Clone(c.T), U: slices.Clone(c.U), V: slices.Clone(c.V)}
}

func listsOf(c *api.Own) []*[]uint64 { return []*[]uint64{&c.F, &c.H, &c.S, &c.T, &c.U, &c.V} }

func same(a, b api.Own) bool {
	for i, l := range listsOf(&a) {
		if !slices.Equal(*l, *listsOf(&b)[i]) {
			return false
		}
	}
	return true
}

func noClaim(c api.Own) bool { return same(c, api.Own{}) }

// lists are all of so many numbers below most.
func lists(most uint64, many int) [][]uint64 {
	all := [][]uint64{nil}
	for range many {
		var longer [][]uint64
		for _, l := range all {
			for x := range most {
				longer = append(longer, append(slices.Clone(l), x))
			}
		}
		all = longer
	}
	return all
}

// upTo so many numbers below most: all lists.
func upTo(most uint64, many int) [][]uint64 {
	var all [][]uint64
	for n := range many + 1 {
		all = append(all, lists(most, n)...)
	}
	return all
}

func mats(p uint64, n int) []api.Mat {
	var l []api.Mat
	for _, cells := range lists(p, n*n) {
		l = append(l, api.Mat{Rows: n, Cols: n, Cells: cells})
	}
	return l
}

// monics are all monic polynomials of a degree from least to most, by their degrees.
func monics(p uint64, least, most int) [][]uint64 {
	var all [][]uint64
	for degree := least; degree <= most; degree++ {
		for _, l := range lists(p, degree) {
			all = append(all, append(l, 1))
		}
	}
	return all
}

// mat of rows that are written out.
func mat(rows ...[]uint64) api.Mat {
	return api.Mat{Rows: len(rows), Cols: len(rows[0]), Cells: slices.Concat(rows...)}
}

// The slow ways: by products of two words and what is left of them, number by number.

func mul(p, a, b uint64) uint64 {
	high, low := bits.Mul64(a, b)
	return bits.Rem64(high, low, p)
}

func sum(p, a, b uint64) uint64 { return (a + b) % p }

func dot(p uint64, a, b []uint64) uint64 {
	var s uint64
	for i := range a {
		s = sum(p, s, mul(p, a[i], b[i]))
	}
	return s
}

func times(p uint64, m api.Mat, x []uint64) []uint64 {
	var y []uint64
	for row := range slices.Chunk(m.Cells, m.Cols) {
		y = append(y, dot(p, row, x))
	}
	return y
}

func trimmed(f []uint64) []uint64 {
	for len(f) > 0 && f[len(f)-1] == 0 {
		f = f[:len(f)-1]
	}
	return f
}

func plus(p uint64, a, b []uint64) []uint64 {
	c := make([]uint64, max(len(a), len(b)))
	copy(c, a)
	for i, x := range b {
		c[i] = sum(p, c[i], x)
	}
	return trimmed(c)
}

func mulPoly(p uint64, a, b []uint64) []uint64 {
	c := make([]uint64, len(a)+len(b))
	for i, x := range a {
		for j, y := range b {
			c[i+j] = sum(p, c[i+j], mul(p, x, y))
		}
	}
	return trimmed(c)
}

// at a place a polynomial is this number, power by power.
func at(p uint64, f []uint64, z uint64) uint64 {
	var s uint64
	power := uint64(1)
	for _, x := range f {
		s = sum(p, s, mul(p, x, power))
		power = mul(p, power, z)
	}
	return s
}

// done is a polynomial of a matrix done to a vector, power by power from the least one up.
func done(p uint64, f []uint64, m api.Mat, v []uint64) []uint64 {
	s := make([]uint64, len(v))
	for _, number := range f {
		for i := range s {
			s[i] = sum(p, s[i], mul(p, number, v[i]))
		}
		v = times(p, m, v)
	}
	return s
}

func all0(l []uint64) bool { return !slices.ContainsFunc(l, func(x uint64) bool { return x != 0 }) }

func below(p uint64, l []uint64) bool {
	return p >= 2 && p < beyond && !slices.ContainsFunc(l, func(x uint64) bool { return x >= p })
}

func isPoly(p uint64, f []uint64) bool {
	return below(p, f) && len(f) <= 512 && len(trimmed(f)) == len(f)
}

func slowHas(p uint64, c api.Own, n int) bool {
	if n < 1 || n > 64 || !isPoly(p, c.F) || !isPoly(p, c.H) || !isPoly(p, c.S) || !isPoly(p, c.T) {
		return false
	}
	degree := len(c.F) - 1
	if degree < 1 || degree > n || c.F[degree] != 1 || len(c.H)-1 >= degree || len(c.S)-1 >= degree || len(c.T)-1 > degree {
		return false
	}
	makes := plus(p, mulPoly(p, c.S, c.F), mulPoly(p, c.T, c.H))
	return slices.Equal(makes, []uint64{1}) && len(c.U) == n && len(c.V) == n && below(p, c.U) && below(p, c.V)
}

// lessed is z times w, less what the matrix makes of w.
func lessed(p uint64, m api.Mat, z uint64, w []uint64) []uint64 {
	l := times(p, m, w)
	for i := range l {
		l[i] = sum(p, mul(p, z, w[i]), (p-l[i])%p)
	}
	return l
}

// lessMat is the matrix that does the same.
func lessMat(p uint64, m api.Mat, z uint64) api.Mat {
	l := api.Mat{Rows: m.Rows, Cols: m.Cols}
	for i := range m.Rows {
		for j := range m.Cols {
			cell := (p - m.Cells[i*m.Cols+j]) % p
			if i == j {
				cell = sum(p, cell, z)
			}
			l.Cells = append(l.Cells, cell)
		}
	}
	return l
}

// slowPasses is asked of claims that have the shape alone.
func slowPasses(p uint64, m api.Mat, c api.Own, z uint64, w []uint64) bool {
	return slices.Equal(lessed(p, m, z, w), c.V) && mul(p, dot(p, c.U, w), at(p, c.F, z)) == at(p, c.H, z)
}

// slowH is the sum as the document has it.
func slowH(p uint64, m api.Mat, f, u, v []uint64) []uint64 {
	h := make([]uint64, len(f))
	for k := range f {
		for j := k + 1; j < len(f); j++ {
			power := v
			for range j - 1 - k {
				power = times(p, m, power)
			}
			h[k] = sum(p, h[k], mul(p, f[j], dot(p, u, power)))
		}
	}
	return trimmed(h)
}

func hasHolds(t *testing.T, p uint64, c api.Own, n int) bool {
	t.Helper()
	has := own.Has(p, c, n)
	if has != slowHas(p, c, n) {
		t.Fatalf("Has(%d, %v, %d): %v", p, c, n, has)
	}
	return has
}

func passesHolds(t *testing.T, p uint64, m api.Mat, c api.Own, z uint64, w []uint64) bool {
	t.Helper()
	passes, e := own.Passes(p, m, c, z, w)
	if e != api.OK || passes != slowPasses(p, m, c, z, w) {
		t.Fatalf("Passes(%d, %v, %v, %d, %v): %v, %d", p, m, c, z, w, passes, e)
	}
	return passes
}

func diesHolds(t *testing.T, p uint64, m api.Mat, c api.Own, x []uint64) bool {
	t.Helper()
	dies, e := own.Dies(p, m, c, x)
	if e != api.OK || dies != all0(done(p, c.F, m, x)) {
		t.Fatalf("Dies(%d, %v, %v, %v): %v, %d", p, m, c, x, dies, e)
	}
	return dies
}

// known is the document's example: modulo 7.
func known() (api.Mat, api.Own) {
	return mat([]uint64{0, 1}, []uint64{6, 0}),
		api.Own{F: []uint64{1, 0, 1}, H: []uint64{1}, T: []uint64{1}, U: []uint64{1, 0}, V: []uint64{0, 1}}
}

// cubic is a claim modulo 7 of a matrix of three rows, worked out by hand: F is x³ + x + 1, H x, and x times - x² - 1 and F is 1.
func cubic() (api.Mat, api.Own) {
	return mat([]uint64{0, 1, 0}, []uint64{0, 0, 1}, []uint64{6, 6, 0}),
		api.Own{F: []uint64{1, 1, 0, 1}, H: []uint64{0, 1}, S: []uint64{1}, T: []uint64{6, 0, 6}, U: []uint64{1, 0, 0}, V: []uint64{0, 1, 0}}
}

func TestP15_1HasKnown(t *testing.T) {
	_, c := known()
	_, long := cubic()
	for i, k := range []struct {
		c    api.Own
		n    int
		want bool
	}{
		{c, 2, true},
		{c, 1, false}, // U and V have more
		{c, 3, false}, // fewer
		{long, 3, true},
		{long, 2, false},
		{long, 4, false},
		{api.Own{}, 1, false},
		{api.Own{}, 0, false},
		{api.Own{F: []uint64{6, 1}, H: []uint64{3}, T: []uint64{5}, U: []uint64{0}, V: []uint64{6}}, 1, true},
		// F may be of a less degree than n, but not 0, nor above n.
		{api.Own{F: []uint64{6, 1}, H: []uint64{1}, T: []uint64{1}, U: make([]uint64, 5), V: make([]uint64, 5)}, 5, true},
		{api.Own{F: []uint64{1}, S: []uint64{1}, U: []uint64{0}, V: []uint64{6}}, 1, false},
		{api.Own{F: []uint64{1, 0, 1}, H: []uint64{1}, T: []uint64{1}, U: []uint64{1}, V: []uint64{1}}, 1, false},
		// F isn't monic.
		{api.Own{F: []uint64{6, 2}, H: []uint64{1}, T: []uint64{1}, U: []uint64{0}, V: []uint64{6}}, 1, false},
		// H is of F's degree.
		{api.Own{F: []uint64{6, 1}, H: []uint64{0, 1}, S: []uint64{6}, T: []uint64{1}, U: []uint64{0}, V: []uint64{6}}, 1, false},
		// T is of F's degree: 1 F + (-x - 1 + 2) 1.
		{api.Own{F: []uint64{6, 1}, H: []uint64{1}, S: []uint64{1}, T: []uint64{2, 6}, U: []uint64{0}, V: []uint64{6}}, 1, true},
		// T is of a higher one, S of F's: they make 1 all the same.
		{api.Own{F: []uint64{6, 1}, H: []uint64{1}, S: []uint64{0, 1}, T: []uint64{1, 1, 6}, U: []uint64{0}, V: []uint64{6}}, 1, false},
		// T is of a higher one, S of a less one.
		{api.Own{F: []uint64{0, 0, 1}, H: []uint64{1}, S: []uint64{0, 1}, T: []uint64{1, 0, 0, 6}, U: make([]uint64, 2), V: make([]uint64, 2)}, 2, false},
		// They make 2, and nothing.
		{api.Own{F: []uint64{6, 1}, H: []uint64{1}, T: []uint64{2}, U: []uint64{0}, V: []uint64{6}}, 1, false},
		{api.Own{F: []uint64{6, 1}, H: []uint64{1}, U: []uint64{0}, V: []uint64{6}}, 1, false},
	} {
		if got := own.Has(7, k.c, k.n); got != k.want || slowHas(7, k.c, k.n) != k.want {
			t.Errorf("%d: Has(7, %v, %d): %v", i, k.c, k.n, got)
		}
	}
}

// All claims of little lists, wrong numbers among them.
func TestP15_1HasAll(t *testing.T) {
	for _, k := range []struct {
		p     uint64
		n     int
		lists [][]uint64
		want  int
	}{
		{2, 1, append(upTo(3, 2), lists(2, 3)...), 4},
		{2, 2, append(upTo(3, 2), lists(2, 3)...), 20},
		{3, 1, upTo(4, 2), 18},
	} {
		had := 0
		u := make([]uint64, k.n)
		for _, f := range k.lists {
			for _, h := range k.lists {
				for _, s := range k.lists {
					for _, l := range k.lists {
						if hasHolds(t, k.p, api.Own{F: f, H: h, S: s, T: l, U: u, V: u}, k.n) {
							had++
						}
					}
				}
			}
		}
		if had != k.want {
			t.Errorf("modulo %d, %d: %d have the shape, not %d", k.p, k.n, had, k.want)
		}
	}
}

// All little U and V beside polynomials that are right.
func TestP15_1HasVectors(t *testing.T) {
	for n := range 4 {
		had := 0
		for _, u := range upTo(4, 3) {
			for _, v := range upTo(4, 3) {
				if hasHolds(t, 3, api.Own{F: []uint64{2, 1}, H: []uint64{2}, T: []uint64{2}, U: u, V: v}, n) {
					had++
				}
			}
		}
		if want := []int{0, 9, 81, 729}[n]; had != want {
			t.Errorf("%d of %d numbers, not %d", had, n, want)
		}
	}
}

// overClaims goes through claims of the shape, modulo primes and others, up to the greatest side.
func overClaims(f func(p uint64, c api.Own, n int, d *dice)) {
	d := dice(1)
	for _, p := range slices.Concat(primes(), others()) {
		for _, n := range []int{1, 2, 3, 4, 7, 12, 31, 63, 64} {
			for range 3 {
				f(p, d.claim(p, n), n, &d)
			}
		}
	}
}

func TestP15_1HasMore(t *testing.T) {
	full, highest := 0, 0
	overClaims(func(p uint64, c api.Own, n int, d *dice) {
		if !hasHolds(t, p, c, n) {
			t.Fatalf("Has(%d, %v, %d): false", p, c, n)
		}
		if len(c.T) == len(c.F) {
			full++
		}
		highest = max(highest, len(c.F)-1)
		for _, other := range []int{n - 1, n + 1, 2 * n, -n} {
			hasHolds(t, p, c, other)
		}
	})
	if full < 50 || highest < 60 {
		t.Error(full, highest)
	}
	for _, p := range primes() {
		d := dice(2)
		c := api.Own{F: d.monic(p, 64), H: []uint64{p - 1}, T: []uint64{p - 1}, U: d.list(p, 64), V: d.list(p, 64)}
		if !hasHolds(t, p, c, 64) {
			t.Error(p)
		}
		c.F = d.monic(p, 65)
		c.U, c.V = append(c.U, 0), append(c.V, 0)
		if hasHolds(t, p, c, 65) || hasHolds(t, p, c, 64) {
			t.Error(p)
		}
	}
}

// spoilt claims: one thing is changed in each.
func spoilt(p uint64, c api.Own, d *dice) []api.Own {
	var all []api.Own
	for i := range 6 {
		for _, do := range []func(l []uint64) []uint64{
			func(l []uint64) []uint64 { return append(l, 0) },
			func(l []uint64) []uint64 { return append(l, 1) },
			func(l []uint64) []uint64 { return append(l, p) },
			func(l []uint64) []uint64 { return l[:max(0, len(l)-1)] },
			func(l []uint64) []uint64 { return l[min(1, len(l)):] },
			func(l []uint64) []uint64 { return nil },
			func(l []uint64) []uint64 { return make([]uint64, 513) },
			func(l []uint64) []uint64 { return append(make([]uint64, 512), 1) },
			func(l []uint64) []uint64 { return append(make([]uint64, 511), 1) },
			func(l []uint64) []uint64 {
				if k := d.below(len(l) + 1); k < len(l) {
					l[k] = sum(p, l[k], 1)
				}
				return l
			},
			func(l []uint64) []uint64 {
				if len(l) > 0 {
					l[d.below(len(l))] += p
				}
				return l
			},
			func(l []uint64) []uint64 {
				if len(l) > 0 {
					l[len(l)-1] = wholeWord
				}
				return l
			},
		} {
			other := copied(c)
			l := listsOf(&other)[i]
			*l = do(*l)
			all = append(all, other)
		}
	}
	return all
}

func TestP15_1HasSpoilt(t *testing.T) {
	lost := 0
	overClaims(func(p uint64, c api.Own, n int, d *dice) {
		for _, other := range spoilt(p, c, d) {
			if !hasHolds(t, p, other, n) {
				lost++
			}
		}
	})
	if lost < 10000 {
		t.Error(lost)
	}
}

func TestP15_1HasWrong(t *testing.T) {
	_, c := known()
	for _, p := range wrongModuli() {
		if own.Has(p, c, 2) {
			t.Errorf("Has by %d", p)
		}
	}
	for _, n := range wrongSides() {
		if own.Has(7, c, n) || own.Has(7, api.Own{F: c.F, H: c.H, T: c.T}, n) {
			t.Errorf("Has of %d", n)
		}
	}
}

func TestP15_1PassesKnown(t *testing.T) {
	m, c := known()
	// At 1 the answer is (4, 4): 1 and 1 less (1, -1), 4 times; and 4 times F, 2, is 1.
	for _, k := range []struct {
		z    uint64
		w    []uint64
		want bool
	}{
		{1, []uint64{4, 4}, true},
		{1, []uint64{4, 5}, false},
		{1, []uint64{5, 4}, false},
		{1, []uint64{0, 0}, false},
		{0, []uint64{6, 0}, false}, // it makes (0, -1)
		{0, []uint64{1, 0}, true},
		{2, []uint64{3, 6}, true}, // 3 times 5 is 1
		{2, []uint64{4, 4}, false},
		{6, []uint64{4, 3}, true},
	} {
		if got := passesHolds(t, 7, m, c, k.z, k.w); got != k.want {
			t.Errorf("at %d, %v: %v", k.z, k.w, got)
		}
	}
	// The answer for V is right, but H is another: only F and H tell.
	other := api.Own{F: c.F, H: []uint64{2}, T: []uint64{4}, U: c.U, V: c.V}
	if passesHolds(t, 7, m, other, 1, []uint64{4, 4}) {
		t.Error("another H")
	}
	other = api.Own{F: []uint64{2, 1}, H: c.H, T: c.T, U: c.U, V: c.V} // x + 2: 4 times 3 isn't 1
	if passesHolds(t, 7, m, other, 1, []uint64{4, 4}) {
		t.Error("another F")
	}
	other.F = []uint64{1, 1} // x + 1: 2 at 1, as x² + 1
	if !passesHolds(t, 7, m, other, 1, []uint64{4, 4}) || passesHolds(t, 7, m, other, 2, []uint64{3, 6}) {
		t.Error("an F that is as great at one place")
	}
}

// All matrices, places and answers, for some claims.
func TestP15_1PassesAll(t *testing.T) {
	d := dice(3)
	passed := 0
	for _, p := range []uint64{2, 3, 4} {
		for n := 1; n <= 2; n++ {
			for _, m := range mats(p, n) {
				for _, w := range lists(p, n) {
					for z := range p {
						for range 4 {
							c := d.claim(p, n)
							if d.below(2) == 0 {
								c.V = lessed(p, m, z, w)
							}
							if passesHolds(t, p, m, c, z, w) {
								passed++
							}
						}
					}
				}
			}
		}
	}
	if passed < 2000 {
		t.Error(passed)
	}
}

// passing is a claim changed so that an answer passes, if there is a way by U alone; its last number of w is 1.
func passing(p uint64, m api.Mat, c api.Own, z uint64, w []uint64) (api.Own, bool) {
	n := len(w)
	c = copied(c)
	c.V = lessed(p, m, z, w)
	inverse, e := field.Inv(p, at(p, c.F, z))
	if e != api.OK {
		return c, false
	}
	c.U[n-1] = 0
	need := mul(p, at(p, c.H, z), inverse)
	c.U[n-1] = sum(p, need, (p-dot(p, c.U, w))%p)
	return c, true
}

func TestP15_1Passes(t *testing.T) {
	passed, failed := 0, 0
	overClaims(func(p uint64, c api.Own, n int, d *dice) {
		m, z, w := d.mat(p, n), d.list(p, 1)[0], append(d.list(p, n-1), 1)
		passesHolds(t, p, m, c, z, w)
		c, ok := passing(p, m, c, z, w)
		if passesHolds(t, p, m, c, z, w) {
			passed++
		} else if ok {
			t.Fatalf("Passes(%d, %v, %v, %d, %v): false", p, m, c, z, w)
		}
		k := d.below(n)
		for range 2 {
			other := copied(c)
			for _, l := range [][]uint64{other.U, other.V} {
				l[k] = sum(p, l[k], 1)
				if !passesHolds(t, p, m, other, z, w) {
					failed++
				}
				l[k] = sum(p, l[k], p-1)
			}
			answer := slices.Clone(w)
			answer[k] = sum(p, answer[k], p-1)
			passesHolds(t, p, m, c, z, answer)
			passesHolds(t, p, m, c, sum(p, z, 1), w)
			k = n - 1
		}
	})
	if passed < 200 || failed < 1000 {
		t.Error(passed, failed)
	}
}

// Where F is 0 at the place, H isn't (modulo a prime): so no answer passes.
func TestP15_1PassesAtRoots(t *testing.T) {
	d := dice(4)
	for _, p := range primes() {
		for range 20 {
			z, w := d.list(p, 1)[0], d.list(p, 3)
			m := d.mat(p, 3)
			f := mulPoly(p, []uint64{(p - z) % p, 1}, d.monic(p, 1))
			h := []uint64{p - 1}
			c := api.Own{F: f, H: h, T: h, U: d.list(p, 3), V: lessed(p, m, z, w)}
			if passesHolds(t, p, m, c, z, w) {
				t.Fatalf("Passes(%d, %v, %v, %d, %v): true", p, m, c, z, w)
			}
		}
	}
}

func passesRefused(t *testing.T, p uint64, m api.Mat, c api.Own, z uint64, w []uint64) {
	t.Helper()
	if passes, e := own.Passes(p, m, c, z, w); passes || e != api.ErrArg {
		t.Errorf("Passes(%d, %v, %v, %d, %v): %v, %d", p, m, c, z, w, passes, e)
	}
}

func diesRefused(t *testing.T, p uint64, m api.Mat, c api.Own, x []uint64) {
	t.Helper()
	if dies, e := own.Dies(p, m, c, x); dies || e != api.ErrArg {
		t.Errorf("Dies(%d, %v, %v, %v): %v, %d", p, m, c, x, dies, e)
	}
}

func answerRefused(t *testing.T, p uint64, m api.Mat, v []uint64, z uint64) {
	t.Helper()
	if w, e := own.Answer(p, m, v, z); len(w) != 0 || e != api.ErrArg {
		t.Errorf("Answer(%d, %v, %v, %d): %v, %d", p, m, v, z, w, e)
	}
}

func makeRefused(t *testing.T, p uint64, m api.Mat, u, v []uint64) {
	t.Helper()
	if c, e := own.Make(p, m, u, v); !noClaim(c) || e != api.ErrArg {
		t.Errorf("Make(%d, %v, %v, %v): %v, %d", p, m, u, v, c, e)
	}
}

// wrongMats modulo 7: of two rows and columns, or nearly.
func wrongMats() []api.Mat {
	cells := []uint64{0, 1, 6, 0}
	l := []api.Mat{
		{},
		{Rows: 2, Cols: 2},
		{Rows: 2, Cols: 2, Cells: cells[:3]},
		{Rows: 2, Cols: 2, Cells: append(slices.Clone(cells), 0)},
		{Rows: 2, Cols: 2, Cells: []uint64{0, 1, 7, 0}},
		{Rows: 2, Cols: 2, Cells: []uint64{0, 1, 6, wholeWord}},
		{Rows: 1, Cols: 2, Cells: cells[:2]},
		{Rows: 2, Cols: 1, Cells: cells[:2]},
		{Rows: 1, Cols: 4, Cells: cells},
		{Rows: 4, Cols: 1, Cells: cells},
		{Rows: 2, Cols: 3, Cells: make([]uint64, 6)},
		{Rows: 3, Cols: 2, Cells: make([]uint64, 6)},
		{Rows: -2, Cols: -2, Cells: cells},
		{Rows: 65, Cols: 65, Cells: make([]uint64, 65*65)},
	}
	for _, n := range wrongSides() {
		l = append(l, api.Mat{Rows: n, Cols: n, Cells: cells}, api.Mat{Rows: 2, Cols: n, Cells: cells}, api.Mat{Rows: n, Cols: 2, Cells: cells})
	}
	return l
}

// wrongVectors modulo 7, where there must be two numbers.
func wrongVectors() [][]uint64 {
	return [][]uint64{nil, {}, {1}, {1, 2, 3}, {7, 0}, {0, 7}, {0, wholeWord}, make([]uint64, 64), make([]uint64, 1000)}
}

func TestP15_1Wrong(t *testing.T) {
	m, c := known()
	v := []uint64{0, 1}
	for _, other := range wrongMats() {
		passesRefused(t, 7, other, c, 1, v)
		diesRefused(t, 7, other, c, v)
		answerRefused(t, 7, other, v, 1)
		makeRefused(t, 7, other, v, v)
	}
	for _, other := range wrongVectors() {
		passesRefused(t, 7, m, c, 1, other)
		diesRefused(t, 7, m, c, other)
		answerRefused(t, 7, m, other, 1)
		makeRefused(t, 7, m, other, v)
		makeRefused(t, 7, m, v, other)
	}
	for _, p := range wrongModuli() {
		passesRefused(t, p, m, c, 0, v)
		diesRefused(t, p, m, c, v)
		answerRefused(t, p, m, v, 0)
		makeRefused(t, p, m, v, v)
	}
	for _, z := range []uint64{7, 8, 14, beyond, wholeWord} {
		passesRefused(t, 7, m, c, z, v)
		answerRefused(t, 7, m, v, z)
	}
	d := dice(5)
	for _, other := range spoilt(7, c, &d) {
		if !own.Has(7, other, 2) {
			passesRefused(t, 7, m, other, 1, []uint64{4, 4})
			diesRefused(t, 7, m, other, v)
		}
	}
	// They have the shape, but for another side.
	_, long := cubic()
	passesRefused(t, 7, m, long, 1, v)
	passesRefused(t, 7, m, long, 1, []uint64{0, 1, 0})
	diesRefused(t, 7, m, long, v)
	diesRefused(t, 7, m, long, []uint64{0, 1, 0})
	// A matrix that isn't as wide as high, and a claim and a vector that fit one side each.
	for _, x := range [][]uint64{v, {0, 1, 0}} {
		for _, claim := range []api.Own{c, long} {
			for _, other := range []api.Mat{{Rows: 2, Cols: 3, Cells: make([]uint64, 6)}, {Rows: 3, Cols: 2, Cells: make([]uint64, 6)}} {
				passesRefused(t, 7, other, claim, 1, x)
				diesRefused(t, 7, other, claim, x)
				answerRefused(t, 7, other, x, 1)
				makeRefused(t, 7, other, x, x)
			}
		}
	}
}

// What is wrong is told ahead of what there is none of, and of what can't be divided by.
func TestP15_1WrongAhead(t *testing.T) {
	noughts := mat([]uint64{0, 0}, []uint64{0, 0})
	answerRefused(t, 7, noughts, []uint64{7, 1}, 0)
	answerRefused(t, 7, noughts, []uint64{1, 1, 1}, 0)
	hard := mat([]uint64{0, 0}, []uint64{2, 0})
	answerRefused(t, 4, hard, []uint64{4, 1}, 0)
	answerRefused(t, 4, hard, []uint64{1, 1}, 4)
	makeRefused(t, 4, hard, []uint64{4, 1}, []uint64{1, 1})
	makeRefused(t, 4, hard, []uint64{1, 1}, []uint64{1, 4})
	makeRefused(t, 4, hard, []uint64{1, 1}, []uint64{1})
	makeRefused(t, 7, noughts, []uint64{0, 0}, []uint64{7, 0})
}

func TestP15_1DiesKnown(t *testing.T) {
	m, c := known()
	for _, x := range lists(7, 2) {
		if !diesHolds(t, 7, m, c, x) {
			t.Errorf("%v lives", x)
		}
	}
	// x - 1 of (1 1; 0 2): what has a second number lives.
	m = mat([]uint64{1, 1}, []uint64{0, 2})
	c.F = []uint64{6, 1}
	for _, x := range lists(7, 2) {
		if diesHolds(t, 7, m, c, x) != (x[1] == 0) {
			t.Errorf("%v", x)
		}
	}
}

func TestP15_1Dies(t *testing.T) {
	died, lived := 0, 0
	overClaims(func(p uint64, c api.Own, n int, d *dice) {
		m := d.mat(p, n)
		for _, x := range [][]uint64{make([]uint64, n), d.list(p, n), d.list(p, n)} {
			if diesHolds(t, p, m, c, x) {
				died++
			} else {
				lived++
			}
		}
		// Its last row is made so that F makes 0 of all.
		m, e := krylov.Companion(p, c.F)
		if e != api.OK || m.Rows != n {
			return
		}
		if !diesHolds(t, p, m, c, d.list(p, n)) {
			t.Fatalf("modulo %d: %v lives", p, c.F)
		}
		died++
	})
	if died < 440 || lived < 440 {
		t.Error(died, lived)
	}
}

func TestP15_1AnswerKnown(t *testing.T) {
	m, c := known()
	for z, want := range [][]uint64{{1, 0}, {4, 4}, {3, 6}, {5, 1}, {5, 6}, {3, 1}, {4, 3}} {
		if w, e := own.Answer(7, m, c.V, uint64(z)); e != api.OK || !slices.Equal(w, want) {
			t.Errorf("at %d: %v, %d", z, w, e)
		}
	}
	// (1 1; 0 2): at 1 and 2 there is none for (0, 1).
	m = mat([]uint64{1, 1}, []uint64{0, 2})
	for z := range uint64(7) {
		w, e := own.Answer(7, m, []uint64{0, 1}, z)
		if none := z == 1 || z == 2; none != (e == api.ErrNone) || none != (len(w) == 0) {
			t.Errorf("at %d: %v, %d", z, w, e)
		}
	}
	// (1, 0) is met at 2, though the matrix left is singular.
	if w, e := own.Answer(7, m, []uint64{1, 0}, 2); e != api.OK || !slices.Equal(w, []uint64{1, 0}) {
		t.Error(w, e)
	}
	// Modulo 4, 2 has no Inv.
	if w, e := own.Answer(4, mat([]uint64{1}), []uint64{2}, 3); e != api.ErrZero || len(w) != 0 {
		t.Error(w, e)
	}
	if w, e := own.Answer(4, mat([]uint64{1}), []uint64{2}, 0); e != api.OK || !slices.Equal(w, []uint64{2}) {
		t.Error(w, e)
	}
}

// All little matrices: there is an answer just if some w is one.
func TestP15_1AnswerAll(t *testing.T) {
	for _, k := range []struct {
		p uint64
		n int
	}{{2, 1}, {3, 1}, {5, 1}, {2, 2}, {3, 2}, {5, 2}, {2, 3}} {
		ws := lists(k.p, k.n)
		for _, m := range mats(k.p, k.n) {
			for z := range k.p {
				for _, v := range ws {
					w, e := own.Answer(k.p, m, v, z)
					meets := func(w []uint64) bool { return slices.Equal(lessed(k.p, m, z, w), v) }
					if is := slices.ContainsFunc(ws, meets); is && (e != api.OK || len(w) != k.n || !meets(w)) || !is && (e != api.ErrNone || len(w) != 0) {
						t.Fatalf("Answer(%d, %v, %v, %d): %v, %d", k.p, m, v, z, w, e)
					}
				}
			}
		}
	}
}

// It is the one that layer 8 finds, with its errors, modulo no prime too.
func TestP15_1Answer(t *testing.T) {
	d := dice(6)
	told := map[api.Errno]int{}
	for _, p := range slices.Concat(primes(), others()) {
		for _, n := range []int{1, 2, 3, 4, 5, 9, 20, 64} {
			for k := range 6 {
				m, v, z := d.mat(p, n), d.list(p, n), d.list(p, 1)[0]
				if k%3 == 0 { // so that what is left has few rows that count
					rank := d.below(n)
					clear(m.Cells[rank*n:])
					z = 0
				}
				if k%2 == 0 {
					v = lessed(p, m, z, d.list(p, n))
				}
				w, e := own.Answer(p, m, v, z)
				want, f := solve.Solve(p, lessMat(p, m, z), v)
				if e != f || !slices.Equal(w, want) || e == api.OK && !slices.Equal(lessed(p, m, z, w), v) {
					t.Fatalf("Answer(%d, %v, %v, %d): %v, %d", p, m, v, z, w, e)
				}
				told[e]++
			}
		}
	}
	if told[api.OK] < 100 || told[api.ErrNone] < 50 || told[api.ErrZero] < 50 || len(told) != 3 {
		t.Error(told)
	}
}

func TestP15_2Known(t *testing.T) {
	m, c := known()
	long, longer := cubic()
	two := mat([]uint64{2, 0}, []uint64{0, 2})
	for i, k := range []struct {
		m    api.Mat
		want api.Own
	}{
		{m, c},
		{long, longer},
		{mat([]uint64{1, 1}, []uint64{0, 2}), api.Own{F: []uint64{2, 4, 1}, H: []uint64{1}, T: []uint64{1}, U: []uint64{1, 0}, V: []uint64{0, 1}}},
		// The own polynomial has a less degree than the matrix rows.
		{two, api.Own{F: []uint64{5, 1}, H: []uint64{3}, T: []uint64{5}, U: []uint64{3, 0}, V: []uint64{1, 6}}},
		{mat([]uint64{0}), api.Own{F: []uint64{0, 1}, H: []uint64{6}, T: []uint64{6}, U: []uint64{1}, V: []uint64{6}}},
	} {
		got, e := own.Make(7, k.m, k.want.U, k.want.V)
		if e != api.OK || !same(got, k.want) {
			t.Errorf("%d: %v, %d", i, got, e)
		}
	}
}

func TestP15_2None(t *testing.T) {
	m, c := known()
	nought := []uint64{0, 0}
	for _, k := range [][2][]uint64{{nought, c.V}, {c.U, nought}, {nought, nought}} {
		if got, e := own.Make(7, m, k[0], k[1]); e != api.ErrNone || !noClaim(got) {
			t.Errorf("%v: %v, %d", k, got, e)
		}
	}
	// U and V don't meet: 2 of all.
	if got, e := own.Make(7, mat([]uint64{2, 0}, []uint64{0, 2}), c.U, c.V); e != api.ErrNone || !noClaim(got) {
		t.Error(got, e)
	}
	// H is x - 1, a divisor of (x - 1) (x - 2).
	if got, e := own.Make(7, mat([]uint64{1, 1}, []uint64{0, 2}), []uint64{1, 0}, []uint64{1, 1}); e != api.ErrNone || !noClaim(got) {
		t.Error(got, e)
	}
	// (1 0; 0 2) has x² - 3 x + 2, but V knows the 1 alone.
	if got, e := own.Make(7, mat([]uint64{1, 0}, []uint64{0, 2}), []uint64{1, 1}, []uint64{1, 0}); e != api.ErrNone || !noClaim(got) {
		t.Error(got, e)
	}
}

func TestP15_2OfNoPrime(t *testing.T) {
	one := []uint64{1}
	got, e := own.Make(4, mat([]uint64{2}), one, one)
	if want := (api.Own{F: []uint64{2, 1}, H: one, T: one, U: one, V: one}); e != api.OK || !same(got, want) {
		t.Error(got, e)
	}
	// H is 2: it has no Inv, and 1 isn't made of F and 2.
	if got, e := own.Make(4, mat([]uint64{2}), []uint64{2}, one); e != api.ErrNone || !noClaim(got) {
		t.Error(got, e)
	}
	// Layer 9 needs the Inv of 2: whatever U and V are.
	for _, u := range lists(4, 2) {
		if got, e := own.Make(4, mat([]uint64{0, 0}, []uint64{2, 0}), u, []uint64{1, 3}); e != api.ErrZero || !noClaim(got) {
			t.Error(u, got, e)
		}
	}
}

// makeHolds holds a claim against layers 3 and 9, and the slow sum.
func makeHolds(t *testing.T, p uint64, m api.Mat, u, v []uint64) (api.Own, api.Errno) {
	t.Helper()
	c, e := own.Make(p, m, u, v)
	f, zero := krylov.Min(p, m)
	if zero != api.OK {
		if e != zero || !noClaim(c) {
			t.Fatalf("Make(%d, %v, %v, %v): %v, %d", p, m, u, v, c, e)
		}
		return c, e
	}
	h := slowH(p, m, f, u, v)
	g, s, l, no := poly.Bezout(p, f, h)
	if no != api.OK || !slices.Equal(g, []uint64{1}) {
		if e != api.ErrNone || !noClaim(c) {
			t.Fatalf("Make(%d, %v, %v, %v): %v, %d", p, m, u, v, c, e)
		}
		return c, e
	}
	if e != api.OK || !same(c, api.Own{F: f, H: h, S: s, T: l, U: u, V: v}) {
		t.Fatalf("Make(%d, %v, %v, %v): %v, %d", p, m, u, v, c, e)
	}
	return c, e
}

// sidesOf a modulus: the greatest ones for few, since a matrix's own polynomial takes its time.
func sidesOf(p uint64) []int {
	if p == 2 || p == 65537 {
		return []int{1, 2, 3, 4, 9, 20, 33}
	}
	return []int{1, 2, 3, 4, 6, 10}
}

func TestP15_2Make(t *testing.T) {
	d := dice(7)
	told := map[api.Errno]int{}
	for _, p := range slices.Concat(primes(), others()) {
		for _, n := range sidesOf(p) {
			for k := range 4 {
				m := d.mat(p, n)
				if k == 3 { // few rows: an own polynomial of a less degree
					clear(m.Cells[(n+2)/3*n:])
				}
				_, e := makeHolds(t, p, m, d.list(p, n), d.list(p, n))
				told[e]++
			}
		}
	}
	if told[api.OK] < 100 || told[api.ErrNone] < 10 || told[api.ErrZero] < 30 || len(told) != 3 {
		t.Error(told)
	}
}

// A companion's own polynomial is known: so a matrix of the greatest side is, and its H, by hand.
func TestP15_2Greatest(t *testing.T) {
	d := dice(8)
	for _, p := range []uint64{2, bigPrime} {
		f := d.monic(p, 64)
		f[0] = 1
		m, e := krylov.Companion(p, f)
		if e != api.OK {
			t.Fatal(e)
		}
		// What the powers make of the last unit vector has 1 first at the power 63: H is 1.
		u, v := make([]uint64, 64), make([]uint64, 64)
		u[0], v[63] = 1, 1
		c, e := own.Make(p, m, u, v)
		if e != api.OK || !same(c, api.Own{F: f, H: []uint64{1}, T: []uint64{1}, U: u, V: v}) {
			t.Fatalf("modulo %d: %v, %d", p, c, e)
		}
		for range 3 {
			z, x := d.list(p, 1)[0], d.list(p, 64)
			w, e := own.Answer(p, m, v, z)
			if at(p, f, z) == 0 {
				if e != api.ErrNone {
					t.Fatal(p, z, e)
				}
				continue
			}
			if e != api.OK || !passesHolds(t, p, m, c, z, w) || !diesHolds(t, p, m, c, x) {
				t.Fatal(p, z, e)
			}
		}
	}
}

// leastOf the monic polynomials that make 0 of all.
func leastOf(p uint64, m api.Mat) []uint64 {
	for _, f := range monics(p, 0, m.Rows) {
		if !slices.ContainsFunc(lists(p, m.Rows), func(x []uint64) bool { return !all0(done(p, f, m, x)) }) {
			return f
		}
	}
	return nil
}

// obeyed by the row of u times the powers times v is a rule of less numbers than F?
func obeyed(p uint64, m api.Mat, u, v []uint64, degree int) bool {
	row := make([]uint64, 2*degree)
	for i := range row {
		row[i] = dot(p, u, v)
		v = times(p, m, v)
	}
	for _, g := range monics(p, 0, degree-1) {
		holds := true
		for i := range degree {
			holds = holds && dot(p, g, row[i:i+len(g)]) == 0
		}
		if holds {
			return true
		}
	}
	return false
}

// All little matrices and vectors: F is the least that makes 0 of all, and there is a claim just if the row obeys no shorter rule.
func TestP15_2All(t *testing.T) {
	for _, k := range []struct {
		p uint64
		n int
	}{{2, 1}, {3, 1}, {5, 1}, {2, 2}, {3, 2}} {
		for _, m := range mats(k.p, k.n) {
			f := leastOf(k.p, m)
			for _, u := range lists(k.p, k.n) {
				for _, v := range lists(k.p, k.n) {
					c, e := makeHolds(t, k.p, m, u, v)
					if (e == api.ErrNone) != obeyed(k.p, m, u, v, len(f)-1) || e == api.OK && !slices.Equal(c.F, f) {
						t.Fatalf("Make(%d, %v, %v, %v): %v, %d", k.p, m, u, v, c, e)
					}
				}
			}
		}
	}
}

func TestP15_3Known(t *testing.T) {
	_, c := known()
	_, long := cubic()
	for _, k := range []struct {
		c    api.Own
		n    int
		want []uint64
	}{
		{c, 2, []uint64{3, 1, 0, 1, 1, 0, 1, 1, 1, 1, 0, 0, 1}},
		{long, 3, []uint64{4, 2, 1, 3, 1, 1, 0, 1, 0, 1, 1, 6, 0, 6, 1, 0, 0, 0, 1, 0}},
		{api.Own{U: []uint64{5}, V: []uint64{6}}, 1, []uint64{0, 0, 0, 0, 5, 6}},
		// No shape is asked.
		{api.Own{H: []uint64{wholeWord, 0}, U: []uint64{5}, V: []uint64{beyond}}, 1, []uint64{0, 2, 0, 0, wholeWord, 0, 5, beyond}},
	} {
		if l := own.Numbers(k.c); !slices.Equal(l, k.want) {
			t.Errorf("Numbers(%v): %v", k.c, l)
		}
		if got, e := own.Of(k.want, k.n); e != api.OK || !same(got, k.c) {
			t.Errorf("Of(%v, %d): %v, %d", k.want, k.n, got, e)
		}
	}
	if l := own.Numbers(api.Own{}); !slices.Equal(l, make([]uint64, 4)) {
		t.Error(l)
	}
	// U and V of other lengths are told as they are.
	if l := own.Numbers(api.Own{S: []uint64{9}, U: []uint64{8}, V: []uint64{7, 6}}); !slices.Equal(l, []uint64{0, 0, 1, 0, 9, 8, 7, 6}) {
		t.Error(l)
	}
}

func TestP15_3Back(t *testing.T) {
	overClaims(func(p uint64, c api.Own, n int, d *dice) {
		l := own.Numbers(c)
		if got, e := own.Of(l, n); e != api.OK || !same(got, c) {
			t.Fatalf("Of(%v, %d): %v, %d", l, n, got, e)
		}
	})
}

// Up to 512 of each, whatever they are.
func TestP15_3OfLong(t *testing.T) {
	d := dice(9)
	for _, many := range [][]uint64{{512, 512, 512, 512}, {512, 0, 0, 0}, {0, 512, 0, 1}, {0, 0, 512, 0}, {1, 0, 0, 512}} {
		for _, n := range []int{1, 2, 63, 64} {
			l := slices.Clone(many)
			for range many[0] + many[1] + many[2] + many[3] + 2*uint64(n) {
				l = append(l, d.word())
			}
			c, e := own.Of(l, n)
			if e != api.OK || uint64(len(c.F)) != many[0] || uint64(len(c.H)) != many[1] || uint64(len(c.S)) != many[2] || uint64(len(c.T)) != many[3] || len(c.U) != n || len(c.V) != n || !slices.Equal(own.Numbers(c), l) {
				t.Fatalf("Of %v, %d: %d", many, n, e)
			}
			ofRefused(t, l[:len(l)-1], n)
			ofRefused(t, append(l, 0), n)
		}
	}
}

func ofRefused(t *testing.T, l []uint64, n int) {
	t.Helper()
	if c, e := own.Of(l, n); e != api.ErrForm || !noClaim(c) {
		t.Errorf("Of %d numbers, %v, for %d: %v, %d", len(l), l[:min(len(l), 20)], n, c, e)
	}
}

func TestP15_3OfWrong(t *testing.T) {
	l := []uint64{3, 1, 0, 1, 1, 0, 1, 1, 1, 1, 0, 0, 1}
	for n := range 7 {
		if n != 2 {
			ofRefused(t, l, n)
		}
	}
	for _, n := range wrongSides() {
		ofRefused(t, l, n)
		ofRefused(t, nil, n)
		ofRefused(t, make([]uint64, 4), n)
		if n > 0 && n < 100 {
			ofRefused(t, make([]uint64, 4+2*n), n)
		}
	}
	for k := range l {
		ofRefused(t, l[:k], 2)
	}
	ofRefused(t, append(slices.Clone(l), 0), 2)
	for i := range 4 {
		for _, many := range []uint64{513, 514, 1 << 20, 1 << 31, 1 << 32, 1<<32 + 1, 1 << 62, 1<<63 - 1, beyond, beyond + 1, wholeWord - 3, wholeWord} {
			other := slices.Clone(l)
			other[i] = many
			ofRefused(t, other, 2)
			if many <= 514 {
				ofRefused(t, append(slices.Clone(other), make([]uint64, many)...), 2)
				other = append(make([]uint64, 8), make([]uint64, many)...)
				other[i] = many
				ofRefused(t, other, 2)
			}
		}
	}
	// Their sum would be right, if it went round.
	ofRefused(t, []uint64{beyond, beyond, 0, 0, 1, 2}, 1)
	ofRefused(t, []uint64{wholeWord, 1, 0, 0, 1, 2}, 1)
	ofRefused(t, []uint64{wholeWord, wholeWord, 2, 0, 1, 2}, 1)
}

// All little lists: what Of takes, Numbers tells again, and there is no other.
func TestP15_3All(t *testing.T) {
	for n := 1; n <= 2; n++ {
		for _, l := range upTo(3, 9) {
			c, e := own.Of(l, n)
			fits := len(l) >= 4 && uint64(len(l)) == 4+l[0]+l[1]+l[2]+l[3]+2*uint64(n)
			if fits != (e == api.OK) || !fits && (e != api.ErrForm || !noClaim(c)) || fits && !slices.Equal(own.Numbers(c), l) {
				t.Fatalf("Of(%v, %d): %v, %d", l, n, c, e)
			}
		}
	}
}

// What Make tells has the shape, all x pass, and each Answer does: there is none just where F is 0.
func TestP15_4Made(t *testing.T) {
	d := dice(10)
	made, roots := 0, 0
	for _, p := range primes() {
		for _, n := range sidesOf(p) {
			for range 4 {
				m := d.mat(p, n)
				c, e := own.Make(p, m, d.list(p, n), d.list(p, n))
				if e != api.OK {
					continue
				}
				made++
				if !own.Has(p, c, n) {
					t.Fatalf("Has(%d, %v, %d): false", p, c, n)
				}
				for z := range min(p, 8) {
					roots += madeHolds(t, p, m, c, z, d.list(p, n))
				}
				madeHolds(t, p, m, c, d.list(p, 1)[0], d.list(p, n))
				madeHolds(t, p, m, c, d.word()%p, d.list(p, n))
			}
		}
	}
	if made < 100 || roots < 40 {
		t.Error(made, roots)
	}
}

// madeHolds tells whether (1) F is 0 at the place.
func madeHolds(t *testing.T, p uint64, m api.Mat, c api.Own, z uint64, x []uint64) int {
	t.Helper()
	if dies, e := own.Dies(p, m, c, x); e != api.OK || !dies {
		t.Fatalf("Dies(%d, %v, %v, %v): %v, %d", p, m, c, x, dies, e)
	}
	w, e := own.Answer(p, m, c.V, z)
	if at(p, c.F, z) == 0 {
		if e != api.ErrNone {
			t.Fatalf("Answer(%d, %v, %v, %d): %v, %d", p, m, c.V, z, w, e)
		}
		return 1
	}
	if passes, f := own.Passes(p, m, c, z, w); e != api.OK || f != api.OK || !passes {
		t.Fatalf("Passes(%d, %v, %v, %d, %v): %v, %d, %d", p, m, c, z, w, passes, e, f)
	}
	return 0
}

// A claim whose F isn't a multiple of the matrix's own is told by all x but at most one part in p.
func TestP15_4NoMultiple(t *testing.T) {
	wrong := 0
	for _, k := range []struct {
		p uint64
		n int
	}{{2, 1}, {3, 1}, {5, 1}, {7, 1}, {2, 2}, {3, 2}} {
		xs := lists(k.p, k.n)
		u := make([]uint64, k.n)
		for _, m := range mats(k.p, k.n) {
			least := leastOf(k.p, m)
			for _, f := range monics(k.p, 1, k.n) {
				c := api.Own{F: f, H: []uint64{1}, T: []uint64{1}, U: u, V: u}
				pass := 0
				for _, x := range xs {
					if diesHolds(t, k.p, m, c, x) {
						pass++
					}
				}
				_, rest, _ := poly.Div(k.p, f, least)
				if len(rest) == 0 && pass != len(xs) || len(rest) > 0 && pass*int(k.p) > len(xs) {
					t.Fatalf("modulo %d, %v: of %v %d of %d pass", k.p, m, f, pass, len(xs))
				}
				if len(rest) > 0 {
					wrong++
				}
			}
		}
	}
	if wrong < 500 {
		t.Error(wrong)
	}
}

// placesOf a claim: so many at which some w passes.
func placesOf(t *testing.T, p uint64, m api.Mat, c api.Own, ws [][]uint64) int {
	t.Helper()
	places := 0
	for z := range p {
		if slices.ContainsFunc(ws, func(w []uint64) bool {
			passes, e := own.Passes(p, m, c, z, w)
			if e != api.OK {
				t.Fatalf("Passes(%d, %v, %v, %d, %v): %d", p, m, c, z, w, e)
			}
			return passes
		}) {
			places++
		}
	}
	return places
}

func placesHold(t *testing.T, p uint64, m api.Mat, c api.Own, ws [][]uint64) bool {
	t.Helper()
	least, e := krylov.Min(p, m)
	if e != api.OK {
		t.Fatal(e)
	}
	_, rest, _ := poly.Div(p, least, c.F)
	places := placesOf(t, p, m, c, ws)
	if len(rest) > 0 && places > 3*m.Rows {
		t.Fatalf("modulo %d, %v: %v passes %d places", p, m, c, places)
	}
	return len(rest) > 0
}

// A claim whose F isn't a divisor of it passes at most 3 n places, by whatever w: here all claims of one row, with S 0.
func TestP15_4NoDivisorOfOne(t *testing.T) {
	wrong := 0
	for _, p := range []uint64{5, 7} {
		ws := lists(p, 1)
		for _, k := range lists(p, 5) {
			if k[2] == 0 {
				continue
			}
			inverse, _ := field.Inv(p, k[2])
			c := api.Own{F: []uint64{k[1], 1}, H: k[2:3], T: []uint64{inverse}, U: k[3:4], V: k[4:5]}
			if placesHold(t, p, mat(k[:1]), c, ws) {
				wrong++
			}
		}
	}
	if wrong != 5*4*4*25+7*6*6*49 {
		t.Error(wrong)
	}
}

// Claims of two rows and three: any, and such as are right for another matrix, or were so till one thing was changed.
func TestP15_4NoDivisor(t *testing.T) {
	d := dice(11)
	wrong := 0
	for _, k := range []struct {
		p uint64
		n int
	}{{7, 2}, {11, 2}, {13, 2}, {11, 3}} {
		ws := lists(k.p, k.n)
		for i := range 40 {
			m, c := d.mat(k.p, k.n), d.claim(k.p, k.n)
			if i%2 == 0 {
				c.F, c.H, c.S, c.T = other(t, k.p, k.n, &d)
			}
			if i%4 == 0 { // as the matrix's own row has it, but for F
				if right, e := own.Make(k.p, m, c.U, c.V); e == api.OK {
					c.U, c.V = right.U, right.V
				}
			}
			if placesHold(t, k.p, m, c, ws) {
				wrong++
			}
			if k.n == 3 && i > 8 {
				break
			}
		}
	}
	if wrong < 90 {
		t.Error(wrong)
	}
}

// other matrix's F, H, S and T.
func other(t *testing.T, p uint64, n int, d *dice) (f, h, s, l []uint64) {
	t.Helper()
	for range 100 {
		c, e := own.Make(p, d.mat(p, n), d.list(p, n), d.list(p, n))
		if e == api.OK {
			return c.F, c.H, c.S, c.T
		}
	}
	t.Fatal("no claim")
	return nil, nil, nil, nil
}

// A claim that is right, but that F and H are both times x - r, hasn't the shape: so no multiple is claimed.
func TestP15_4NoMultipleHasTheShape(t *testing.T) {
	m, c := known()
	for r := range uint64(7) {
		by := []uint64{(7 - r) % 7, 1}
		big := api.Own{F: mulPoly(7, c.F, by), H: mulPoly(7, c.H, by), S: c.S, T: c.T, U: []uint64{1, 0, 0}, V: []uint64{0, 1, 0}}
		if own.Has(7, big, 3) {
			t.Error(r)
		}
		if g, _ := poly.Gcd(7, big.F, big.H); !slices.Equal(g, by) {
			t.Error(g)
		}
	}
	if places := placesOf(t, 7, m, c, lists(7, 2)); places != 7 {
		t.Error(places) // x² + 1 is nowhere 0
	}
}

// roomy is a copy with spare room behind it, filled with a mark.
func roomy(l []uint64) []uint64 {
	return append(slices.Clone(l), slices.Repeat([]uint64{wholeWord}, 80)...)[:len(l)]
}

func untouched(room, l []uint64) bool {
	all := room[:len(l)+80]
	return slices.Equal(all[:len(l)], l) && !slices.ContainsFunc(all[len(l):], func(x uint64) bool { return x != wholeWord })
}

func spoil(answer []uint64) {
	answer = answer[:cap(answer)]
	for i := range answer {
		answer[i] = 1
	}
}

func roomyClaim(c api.Own) api.Own {
	c = copied(c)
	for _, l := range listsOf(&c) {
		*l = roomy(*l)
	}
	return c
}

func claimUntouched(room, c api.Own) bool {
	for i, l := range listsOf(&c) {
		if !untouched(*listsOf(&room)[i], *l) {
			return false
		}
	}
	return true
}

func spoilClaim(c api.Own) {
	for _, l := range listsOf(&c) {
		spoil(*l)
	}
}

// What is handed in isn't changed, nor its spare room; an answer shares nothing with it, nor with the next one.
func TestMemory(t *testing.T) {
	d := dice(12)
	for _, p := range []uint64{2, 7, 65537, bigPrime} {
		for _, n := range []int{1, 2, 3, 5, 8} {
			m := d.mat(p, n)
			c, z, x := d.claim(p, n), d.list(p, 1)[0], d.list(p, n)
			if made, e := own.Make(p, m, c.U, c.V); e == api.OK {
				c = made
			}
			l := own.Numbers(c)
			room, cells, vector, numbers := roomyClaim(c), roomy(m.Cells), roomy(x), roomy(l)
			other := api.Mat{Rows: n, Cols: n, Cells: cells}
			want, e := own.Make(p, m, c.U, c.V)
			answer, none := own.Answer(p, m, c.V, z)
			for range 2 {
				passesHolds(t, p, other, room, z, vector)
				diesHolds(t, p, other, room, vector)
				if w, f := own.Answer(p, other, room.V, z); f != none || !slices.Equal(w, answer) {
					t.Fatalf("Answer(%d, %v, %v, %d): %v, %d", p, m, c.V, z, w, f)
				} else {
					spoil(w)
				}
				if got, f := own.Make(p, other, room.U, room.V); f != e || !same(got, want) {
					t.Fatalf("Make(%d, %v, %v, %v): %v, %d", p, m, c.U, c.V, got, f)
				} else {
					spoilClaim(got)
				}
				told := own.Numbers(room)
				got, f := own.Of(numbers, n)
				if !slices.Equal(told, l) || f != api.OK || !same(got, c) || !own.Has(p, room, n) {
					t.Fatalf("Numbers(%v): %v; Of: %v, %d", c, told, got, f)
				}
				spoil(told)
				spoilClaim(got)
				if !claimUntouched(room, c) || !untouched(cells, m.Cells) || !untouched(vector, x) || !untouched(numbers, l) {
					t.Fatalf("a call changes what it is given, or shares with it: %d, %v, %v", p, m, c)
				}
			}
		}
	}
}

// No two lists of one claim share memory, though U and V be handed in as one.
func TestListsMemory(t *testing.T) {
	m, _ := cubic()
	u := []uint64{1, 0, 0}
	made := func() api.Own { c, _ := own.Make(7, m, u, u); return c }
	read := func() api.Own { c, _ := own.Of(own.Numbers(made()), 3); return c }
	if noClaim(made()) || len(made().S) == 0 {
		t.Fatal(made())
	}
	for _, tell := range []func() api.Own{made, read} {
		for i := range 6 {
			c, want := tell(), tell()
			spoil(*listsOf(&c)[i])
			for j, l := range listsOf(&c) {
				if j != i && !slices.Equal(*l, *listsOf(&want)[j]) {
					t.Errorf("lists %d and %d share", i, j)
				}
			}
		}
	}
}
