package krylov_test

import (
	"math"
	"math/bits"
	"slices"
	"testing"

	"affidavit/api"
	"affidavit/cup"
	"affidavit/krylov"
	"affidavit/poly"
	"affidavit/solve"
)

const (
	greatest  = math.MaxInt64 // the greatest modulus: 7 * 7 * 73 * 127 * 337 * 92737 * 649657
	bigPrime  = greatest - 24 // the greatest prime below it
	beyond    = api.MostPrime // the least that is too great
	mersenne  = 1<<61 - 1     // a prime
	halfWord  = 1<<32 - 5     // the greatest prime of 32 bits
	wholeWord = math.MaxUint64
)

func primes() []uint64 { return []uint64{2, 3, 5, 7, 101, 65537, halfWord, mersenne, bigPrime} }

func others() []uint64 { return []uint64{4, 6, 9, 15, 1 << 32, greatest - 1, greatest} }

func wrongModuli() []uint64 {
	return []uint64{0, 1, beyond, beyond + 1, beyond + 25, wholeWord}
}

// dice makes numbers that look like chance and are the same each time.
type dice uint64

func (d *dice) word() uint64 {
	*d ^= *d << 13
	*d ^= *d >> 7
	*d ^= *d << 17
	return uint64(*d)
}

func (d *dice) below(n int) int { return int(d.word() % uint64(n)) }

// list of just so many numbers, noughts and the greatest now and then.
func (d *dice) list(p uint64, many int) []uint64 {
	l := make([]uint64, many)
	for i := range l {
		switch d.word() % 6 {
		case 0:
		case 1:
			l[i] = p - 1
		default:
			l[i] = d.word() % p
		}
	}
	return l
}

func (d *dice) mat(p uint64, n int) api.Mat {
	return api.Mat{Rows: n, Cols: n, Cells: d.list(p, n*n)}
}

// polynomial of so many terms: the last one isn't 0.
func (d *dice) polynomial(p uint64, terms int) []uint64 {
	f := d.list(p, terms)
	if terms > 0 {
		f[terms-1] = 1 + d.word()%(p-1)
	}
	return f
}

func (d *dice) monic(p uint64, degree int) []uint64 { return append(d.list(p, degree), 1) }

// lists are all of so many numbers below most.
func lists(most uint64, many int) [][]uint64 {
	all := [][]uint64{nil}
	for range many {
		var longer [][]uint64
		for _, l := range all {
			for x := range most {
				longer = append(longer, append(slices.Clone(l), x))
			}
		}
		all = longer
	}
	return all
}

func mats(p uint64, n int) []api.Mat {
	var l []api.Mat
	for _, cells := range lists(p, n*n) {
		l = append(l, api.Mat{Rows: n, Cols: n, Cells: cells})
	}
	return l
}

// mat of rows that are written out.
func mat(rows ...[]uint64) api.Mat {
	return api.Mat{Rows: len(rows), Cols: len(rows[0]), Cells: slices.Concat(rows...)}
}

// unit vector of n numbers: 1 at the place i.
func unit(n, i int) []uint64 {
	v := make([]uint64, n)
	v[i] = 1
	return v
}

func one(n int) api.Mat {
	m := api.Mat{Rows: n, Cols: n}
	for i := range n {
		m.Cells = append(m.Cells, unit(n, i)...)
	}
	return m
}

func noughts(n int) api.Mat { return api.Mat{Rows: n, Cols: n, Cells: make([]uint64, n*n)} }

// The slow ways: by products of two words and what is left of them, number by number.

func mul(p, a, b uint64) uint64 {
	high, low := bits.Mul64(a, b)
	return bits.Rem64(high, low, p)
}

func sum(p, a, b uint64) uint64 {
	low, high := bits.Add64(a, b, 0)
	return bits.Rem64(high, low, p)
}

func times(p uint64, m api.Mat, x []uint64) []uint64 {
	var y []uint64
	for row := range slices.Chunk(m.Cells, m.Cols) {
		var s uint64
		for i := range row {
			s = sum(p, s, mul(p, row[i], x[i]))
		}
		y = append(y, s)
	}
	return y
}

func turned(m api.Mat) api.Mat {
	u := api.Mat{Rows: m.Cols, Cols: m.Rows}
	for j := range m.Cols {
		for i := range m.Rows {
			u.Cells = append(u.Cells, m.Cells[i*m.Cols+j])
		}
	}
	return u
}

func product(p uint64, a, b api.Mat) api.Mat {
	u := api.Mat{Rows: b.Cols, Cols: a.Rows}
	for column := range slices.Chunk(turned(b).Cells, b.Rows) {
		u.Cells = append(u.Cells, times(p, a, column)...)
	}
	return turned(u)
}

// done is a polynomial of a matrix done to a vector, power by power from the least one up.
func done(p uint64, f []uint64, m api.Mat, v []uint64) []uint64 {
	s := make([]uint64, len(v))
	for _, number := range f {
		for i := range s {
			s[i] = sum(p, s[i], mul(p, number, v[i]))
		}
		v = times(p, m, v)
	}
	return s
}

func all0(l []uint64) bool { return !slices.ContainsFunc(l, func(x uint64) bool { return x != 0 }) }

// ofRoots is the product of x less each of these.
func ofRoots(p uint64, roots []uint64) []uint64 {
	f := []uint64{1}
	for _, root := range roots {
		longer := append([]uint64{0}, f...)
		for i, number := range f {
			longer[i] = sum(p, longer[i], mul(p, p-root, number))
		}
		f = longer
	}
	return f
}

// polynomials are all monic ones of a degree of at most so much, by their degrees.
func polynomials(p uint64, most int) [][][]uint64 {
	var l [][][]uint64
	for degree := range most + 1 {
		var monics [][]uint64
		for _, numbers := range lists(p, degree) {
			monics = append(monics, append(numbers, 1))
		}
		l = append(l, monics)
	}
	return l
}

// least of the polynomials that make 0 of all these vectors: all of the least degree.
func least(p uint64, fs [][][]uint64, m api.Mat, vectors [][]uint64) [][]uint64 {
	for _, monics := range fs {
		var kill [][]uint64
		for _, f := range monics {
			if !slices.ContainsFunc(vectors, func(v []uint64) bool { return !all0(done(p, f, m, v)) }) {
				kill = append(kill, f)
			}
		}
		if len(kill) > 0 {
			return kill
		}
	}
	return nil
}

// none tells whether there is nothing but an error.
func none(l []uint64, e, want api.Errno) bool { return e == want && len(l) == 0 }

func noMat(m api.Mat, e api.Errno) bool {
	return m.Rows == 0 && m.Cols == 0 && len(m.Cells) == 0 && e == api.ErrArg
}

func of(t *testing.T, p uint64, m api.Mat, v []uint64) []uint64 {
	t.Helper()
	f, e := krylov.Of(p, m, v)
	if e != api.OK {
		t.Fatalf("Of(%d, %v, %v): %v, %d", p, m, v, f, e)
	}
	return f
}

func minOf(t *testing.T, p uint64, m api.Mat) []uint64 {
	t.Helper()
	f, e := krylov.Min(p, m)
	if e != api.OK || m.Rows < 20 && !krylov.Same(p, f, m) {
		t.Fatalf("Min(%d, %v): %v, %d", p, m, f, e)
	}
	return f
}

func companion(t *testing.T, p uint64, f []uint64) api.Mat {
	t.Helper()
	m, e := krylov.Companion(p, f)
	if e != api.OK {
		t.Fatalf("Companion(%d, %v): %d", p, f, e)
	}
	return m
}

// sides that are asked: little ones, and the greatest.
func sides() []int { return []int{1, 2, 3, 5, 8, 13, 63, 64} }

// fewSides of a modulus: the greatest ones for the least and the greatest prime alone, since a matrix's own polynomial takes its time.
func fewSides(p uint64) []int {
	if p == 2 || p == bigPrime {
		return append(sides(), 4, 24)
	}
	return []int{1, 2, 3, 4, 6, 9, 16}
}

func TestP9_1Powers(t *testing.T) {
	d := dice(1)
	for _, p := range slices.Concat(primes(), others()) {
		for _, n := range sides() {
			m, v := d.mat(p, n), d.list(p, n)
			for _, many := range []int{0, 1, 2, n, n + 1, 2 * n, 200} {
				l, e := krylov.Powers(p, m, v, many)
				if e != api.OK || len(l) != many {
					t.Fatalf("Powers(%d, %v, %v, %d): %d of them, %d", p, m, v, many, len(l), e)
				}
				power := v
				for k := range l {
					if !slices.Equal(l[k], power) {
						t.Fatalf("Powers(%d, %v, %v, %d): %v at %d, not %v", p, m, v, many, l[k], k, power)
					}
					power = times(p, m, power)
				}
			}
		}
	}
}

func TestP9_1PowersKnown(t *testing.T) {
	l, e := krylov.Powers(7, mat([]uint64{0, 1}, []uint64{6, 0}), []uint64{1, 2}, 5)
	want := [][]uint64{{1, 2}, {2, 6}, {6, 5}, {5, 1}, {1, 2}}
	if e != api.OK || !slices.EqualFunc(l, want, slices.Equal[[]uint64]) {
		t.Error(l, e)
	}
	// A matrix that takes all to 0: the power 0 is the vector all the same.
	l, e = krylov.Powers(7, noughts(1), []uint64{3}, 3)
	if e != api.OK || !slices.EqualFunc(l, [][]uint64{{3}, {0}, {0}}, slices.Equal[[]uint64]) {
		t.Error(l, e)
	}
}

func TestP9_1PowersRefuses(t *testing.T) {
	m := mat([]uint64{2, 1}, []uint64{0, 2})
	for _, many := range []int{-1, -2, 201, 202, 1000, 1 << 32, math.MinInt, math.MaxInt} {
		if l, e := krylov.Powers(7, m, []uint64{0, 1}, many); e != api.ErrArg || len(l) != 0 {
			t.Errorf("Powers of %d: %v, %d", many, l, e)
		}
	}
}

func TestP9_1Do(t *testing.T) {
	d := dice(2)
	for _, p := range slices.Concat(primes(), others()) {
		for _, n := range sides() {
			m, v := d.mat(p, n), d.list(p, n)
			for _, terms := range []int{0, 1, 2, 3, 7, n + 1} {
				f := d.polynomial(p, terms)
				if x, e := krylov.Do(p, f, m, v); e != api.OK || !slices.Equal(x, done(p, f, m, v)) {
					t.Fatalf("Do(%d, %v, %v, %v): %v, %d", p, f, m, v, x, e)
				}
			}
		}
		m, v, f := d.mat(p, 3), d.list(p, 3), d.polynomial(p, api.MaxTerms)
		if x, e := krylov.Do(p, f, m, v); e != api.OK || !slices.Equal(x, done(p, f, m, v)) {
			t.Fatalf("Do(%d, %d terms): %v, %d", p, len(f), x, e)
		}
	}
}

func TestP9_1DoKnown(t *testing.T) {
	m := mat([]uint64{2, 1}, []uint64{0, 2})
	for _, c := range []struct{ f, x []uint64 }{
		{nil, []uint64{0, 0}},
		{[]uint64{}, []uint64{0, 0}},
		{[]uint64{1}, []uint64{3, 5}},
		{[]uint64{2}, []uint64{6, 3}},
		{[]uint64{0, 1}, []uint64{4, 3}},
		{[]uint64{5, 1}, []uint64{5, 0}}, // x - 2
		{[]uint64{4, 3, 1}, []uint64{0, 0}},
		{[]uint64{1, 0, 2}, []uint64{4, 3}},
	} {
		if x, e := krylov.Do(7, c.f, m, []uint64{3, 5}); e != api.OK || !slices.Equal(x, c.x) {
			t.Errorf("Do(7, %v): %v, %d, not %v", c.f, x, e, c.x)
		}
	}
	// The power 0 is the vector, whatever the matrix is.
	if x, e := krylov.Do(7, []uint64{3, 4, 5}, noughts(2), []uint64{1, 2}); e != api.OK || !slices.Equal(x, []uint64{3, 6}) {
		t.Error(x, e)
	}
}

func TestP9_1DoRefuses(t *testing.T) {
	m := mat([]uint64{2, 1}, []uint64{0, 2})
	for _, f := range [][]uint64{{0}, {1, 0}, {7}, {7, 1}, {1, 7}, {wholeWord}, {1, 2, 0, 0}, slices.Repeat([]uint64{1}, 513), make([]uint64, 513)} {
		if x, e := krylov.Do(7, f, m, []uint64{0, 1}); !none(x, e, api.ErrArg) {
			t.Errorf("Do(7, %v): %v, %d", f, x, e)
		}
	}
}

func TestP9_1Companion(t *testing.T) {
	d := dice(3)
	for _, p := range slices.Concat(primes(), others()) {
		for n := 1; n <= api.MaxSide; n++ {
			for _, f := range [][]uint64{d.monic(p, n), append(make([]uint64, n), 1), slices.Repeat([]uint64{1}, n+1)} {
				m := companion(t, p, f)
				if m.Rows != n || m.Cols != n || len(m.Cells) != n*n {
					t.Fatalf("Companion(%d, %v): %d by %d, %d cells", p, f, m.Rows, m.Cols, len(m.Cells))
				}
				for i := range n - 1 {
					if !slices.Equal(m.Cells[i*n:(i+1)*n], unit(n, i+1)) {
						t.Fatalf("Companion(%d, %v): row %d is %v", p, f, i, m.Cells[i*n:(i+1)*n])
					}
				}
				for j, number := range m.Cells[n*(n-1):] {
					if number >= p || sum(p, number, f[j]) != 0 {
						t.Fatalf("Companion(%d, %v): %d at the last row's place %d", p, f, number, j)
					}
				}
			}
		}
	}
}

func TestP9_1CompanionKnown(t *testing.T) {
	for _, c := range []struct {
		f []uint64
		m api.Mat
	}{
		{[]uint64{0, 1}, mat([]uint64{0})},
		{[]uint64{3, 1}, mat([]uint64{4})},
		{[]uint64{1, 0, 1}, mat([]uint64{0, 1}, []uint64{6, 0})},
		{[]uint64{1, 2, 3, 1}, mat([]uint64{0, 1, 0}, []uint64{0, 0, 1}, []uint64{6, 5, 4})},
	} {
		if m := companion(t, 7, c.f); m.Rows != c.m.Rows || m.Cols != c.m.Cols || !slices.Equal(m.Cells, c.m.Cells) {
			t.Errorf("Companion(7, %v): %v, not %v", c.f, m, c.m)
		}
	}
}

func TestP9_1CompanionRefuses(t *testing.T) {
	wrong := [][]uint64{
		nil, {}, {1}, {0}, {5}, {1, 2}, {1, 6}, {1, 0}, {1, 1, 0}, {7, 1}, {0, 7, 1}, {1, 7}, {1, 8}, {wholeWord, 1},
		append(make([]uint64, 65), 1), append(make([]uint64, 511), 1), append(make([]uint64, 512), 1), append(make([]uint64, 1000), 1),
	}
	for _, f := range wrong {
		if m, e := krylov.Companion(7, f); !noMat(m, e) {
			t.Errorf("Companion(7, %v): %v, %d", f, m, e)
		}
	}
	for _, p := range wrongModuli() {
		if m, e := krylov.Companion(p, []uint64{0, 1}); !noMat(m, e) {
			t.Errorf("Companion(%d, x): %v, %d", p, m, e)
		}
	}
}

// little moduli and sides, for which all there are may be tried.
type little struct {
	p uint64
	n int
}

func littlePrimes() []little {
	return []little{{2, 1}, {2, 2}, {2, 3}, {3, 1}, {3, 2}, {5, 1}, {5, 2}, {7, 1}, {101, 1}}
}

// All little matrices and vectors: every polynomial is tried.
func TestP9_2All(t *testing.T) {
	for _, c := range littlePrimes() {
		fs, vectors := polynomials(c.p, c.n), lists(c.p, c.n)
		for _, m := range mats(c.p, c.n) {
			for _, v := range vectors {
				want := least(c.p, fs, m, [][]uint64{v})
				if f := of(t, c.p, m, v); len(want) != 1 || !slices.Equal(f, want[0]) {
					t.Fatalf("Of(%d, %v, %v): %v, not %v", c.p, m, v, f, want)
				}
			}
			want := least(c.p, fs, m, vectors)
			f := minOf(t, c.p, m)
			if len(want) != 1 || !slices.Equal(f, want[0]) {
				t.Fatalf("Min(%d, %v): %v, not %v", c.p, m, f, want)
			}
			for _, g := range slices.Concat(fs...) {
				if krylov.Same(c.p, g, m) != slices.Equal(f, g) {
					t.Fatalf("Same(%d, %v, %v): it is %v", c.p, g, m, f)
				}
			}
		}
	}
}

// ownHolds: the polynomial makes 0 of the vector, and what the powers below its own make of it don't make one another.
func ownHolds(t *testing.T, p uint64, m api.Mat, v, f []uint64) {
	t.Helper()
	degree := len(f) - 1
	if degree < 0 || degree > m.Rows || f[degree] != 1 || !all0(done(p, f, m, v)) {
		t.Fatalf("Of(%d, %v, %v): %v", p, m, v, f)
	}
	if degree == 0 {
		return
	}
	rows := api.Mat{Rows: degree, Cols: m.Rows}
	for range degree {
		rows.Cells = append(rows.Cells, v...)
		v = times(p, m, v)
	}
	if rank, e := cup.Rank(p, rows); e != api.OK || rank != degree {
		t.Fatalf("Of(%d, %v): %v, but the powers' rank is %d, %d", p, m, f, rank, e)
	}
}

func TestP9_2Of(t *testing.T) {
	d := dice(4)
	for _, p := range primes() {
		for _, n := range sides() {
			for _, m := range []api.Mat{d.mat(p, n), one(n), noughts(n), d.rooted(t, p, n).m} {
				for _, v := range [][]uint64{d.list(p, n), unit(n, 0), unit(n, n-1), make([]uint64, n)} {
					ownHolds(t, p, m, v, of(t, p, m, v))
				}
			}
		}
	}
}

func TestP9_2OfKnown(t *testing.T) {
	m := mat([]uint64{2, 1, 0}, []uint64{0, 2, 0}, []uint64{0, 0, 3})
	for _, c := range []struct{ v, f []uint64 }{
		{[]uint64{0, 0, 0}, []uint64{1}},
		{[]uint64{1, 0, 0}, []uint64{5, 1}},
		{[]uint64{5, 0, 0}, []uint64{5, 1}},
		{[]uint64{0, 1, 0}, []uint64{4, 3, 1}},
		{[]uint64{6, 2, 0}, []uint64{4, 3, 1}},
		{[]uint64{0, 0, 4}, []uint64{4, 1}},
		{[]uint64{1, 0, 1}, []uint64{6, 2, 1}},
		{[]uint64{0, 1, 1}, []uint64{2, 2, 0, 1}},
	} {
		if f := of(t, 7, m, c.v); !slices.Equal(f, c.f) {
			t.Errorf("Of %v: %v, not %v", c.v, f, c.f)
		}
	}
}

func TestP9_2MinKnown(t *testing.T) {
	for _, c := range []struct {
		p uint64
		m api.Mat
		f []uint64
	}{
		{7, mat([]uint64{0, 1}, []uint64{6, 0}), []uint64{1, 0, 1}},
		{7, mat([]uint64{0}), []uint64{0, 1}},
		{7, mat([]uint64{5}), []uint64{2, 1}},
		{7, mat([]uint64{2, 1, 0}, []uint64{0, 2, 0}, []uint64{0, 0, 3}), []uint64{2, 2, 0, 1}},
		{7, mat([]uint64{2, 0, 0}, []uint64{0, 2, 0}, []uint64{0, 0, 3}), []uint64{6, 2, 1}},
		{7, mat([]uint64{1, 0}, []uint64{0, 0}), []uint64{0, 6, 1}},
		{2, mat([]uint64{0, 1}, []uint64{0, 0}), []uint64{0, 0, 1}},
		{2, one(64), []uint64{1, 1}},
		{bigPrime, noughts(64), []uint64{0, 1}},
		{bigPrime, mat([]uint64{1}), []uint64{bigPrime - 1, 1}},
	} {
		if f := minOf(t, c.p, c.m); !slices.Equal(f, c.f) {
			t.Errorf("Min(%d, %v): %v, not %v", c.p, c.m, f, c.f)
		}
	}
}

// rooted is a matrix of which the own polynomial is known.
type rooted struct {
	m api.Mat
	f []uint64
}

// rooted of n rows: companions of powers of x less a root, one below the other, behind a turn of all; the own polynomial has each root as often as the one that has it most.
func (d *dice) rooted(t *testing.T, p uint64, n int) rooted {
	t.Helper()
	roots := d.list(p, 3)
	most := make(map[uint64]int)
	blocks := noughts(n)
	for at := 0; at < n; {
		root, power := roots[d.below(3)], 1+d.below(min(n-at, 1+n/2))
		most[root] = max(most[root], power)
		block := companion(t, p, ofRoots(p, slices.Repeat([]uint64{root}, power)))
		for i := range power {
			copy(blocks.Cells[(at+i)*n+at:], block.Cells[i*power:(i+1)*power])
		}
		at += power
	}
	var all []uint64
	for root, power := range most {
		all = append(all, slices.Repeat([]uint64{root}, power)...)
	}
	return rooted{d.seenFrom(p, blocks), ofRoots(p, all)}
}

// seenFrom elsewhere, a matrix does the same.
func (d *dice) seenFrom(p uint64, m api.Mat) api.Mat {
	for {
		there := api.Mat{Rows: m.Rows, Cols: m.Cols}
		for range m.Cells {
			there.Cells = append(there.Cells, d.word()%p)
		}
		if back, e := solve.Inverse(p, there); e == api.OK {
			return product(p, product(p, there, m), back)
		}
	}
}

func TestP9_2MinRooted(t *testing.T) {
	d := dice(5)
	for _, p := range primes() {
		for _, n := range fewSides(p) {
			r := d.rooted(t, p, n)
			if f := minOf(t, p, r.m); !slices.Equal(f, r.f) {
				t.Fatalf("Min(%d, %v): %v, not %v", p, r.m, f, r.f)
			}
		}
	}
}

func TestP9_2Same(t *testing.T) {
	m := mat([]uint64{2, 0, 0}, []uint64{0, 2, 0}, []uint64{0, 0, 3}) // (x - 2)(x - 3)
	for _, f := range [][]uint64{
		nil, {}, {1}, {5, 1}, {4, 1}, {6, 2}, {6, 2, 2}, {5, 4, 2}, {6, 2, 1, 0}, {0, 6, 2, 1}, {13, 2, 1}, {6, 9, 1}, {6, 2, 8},
		ofRoots(7, []uint64{2, 2, 3}), ofRoots(7, []uint64{2, 3, 4}), make([]uint64, 600),
	} {
		if krylov.Same(7, f, m) {
			t.Errorf("Same(7, %v)", f)
		}
	}
	if !krylov.Same(7, []uint64{6, 2, 1}, m) {
		t.Error("not its own")
	}
	// Where Min tells an error, its nothing is no answer.
	for _, f := range [][]uint64{nil, {}, {1}, {0, 1}, {0, 0, 1}, {0, 2, 1}} {
		if krylov.Same(4, f, mat([]uint64{0, 0}, []uint64{0, 2})) || krylov.Same(7, f, mat([]uint64{1, 2})) || krylov.Same(7, f, api.Mat{}) || krylov.Same(1, f, noughts(1)) {
			t.Errorf("Same(%v)", f)
		}
	}
}

// Min is the least multiple of what belongs to the vectors that are 1 at one place: each divides it, and they make it.
func TestP9_3Multiple(t *testing.T) {
	d := dice(6)
	for _, p := range primes() {
		for _, n := range []int{1, 2, 3, 5, 8, 13, 20} {
			for _, m := range []api.Mat{d.mat(p, n), one(n), noughts(n), d.rooted(t, p, n).m} {
				f, made := minOf(t, p, m), []uint64{1}
				for i := n - 1; i >= 0; i-- {
					own := of(t, p, m, unit(n, i))
					if _, rest, e := poly.Div(p, f, own); e != api.OK || len(rest) > 0 {
						t.Fatalf("Min(%d, %v): %v is no multiple of %v: %v, %d", p, m, f, own, rest, e)
					}
					made, _ = poly.Lcm(p, own, made)
				}
				if !slices.Equal(f, made) || len(f)-1 > n || len(f) < 2 {
					t.Fatalf("Min(%d, %v): %v, not %v", p, m, f, made)
				}
			}
		}
	}
}

func TestP9_3Companion(t *testing.T) {
	d := dice(7)
	for _, p := range primes() {
		for _, n := range fewSides(p) {
			for _, f := range [][]uint64{d.monic(p, n), append(make([]uint64, n), 1), append([]uint64{p - 1}, unit(n, n-1)...)} {
				m := companion(t, p, f)
				if g := minOf(t, p, m); !slices.Equal(f, g) {
					t.Fatalf("Min of Companion(%d, %v): %v", p, f, g)
				}
				// The last place makes the first one by no fewer powers.
				if g := of(t, p, m, unit(n, n-1)); !slices.Equal(f, g) {
					t.Fatalf("Of the last place of Companion(%d, %v): %v", p, f, g)
				}
			}
		}
	}
}

func TestP9_3Zero(t *testing.T) {
	d := dice(8)
	none, some := 0, 0
	for _, p := range primes() {
		for _, n := range []int{1, 2, 3, 4, 5, 8, 13} {
			for range 4 {
				poor := d.mat(p, n)
				copy(poor.Cells[n*(n-1):], poor.Cells[:n])
				for _, m := range []api.Mat{d.mat(p, n), poor, d.rooted(t, p, n).m, one(n), noughts(n)} {
					det, e := cup.Det(p, m)
					f := minOf(t, p, m)
					if e != api.OK || (det == 0) != (f[0] == 0) {
						t.Fatalf("Min(%d, %v): %v, but the determinant is %d, %d", p, m, f, det, e)
					}
					if det == 0 {
						none++
					} else {
						some++
					}
				}
			}
		}
	}
	if none < 100 || some < 100 {
		t.Error(none, some)
	}
}

// A matrix that is turned, or seen from elsewhere, has the same one.
func TestP9_3Turned(t *testing.T) {
	d := dice(9)
	for _, p := range primes() {
		for _, n := range fewSides(p) {
			for _, m := range []api.Mat{d.mat(p, n), d.rooted(t, p, n).m} {
				f := minOf(t, p, m)
				if !krylov.Same(p, f, turned(m)) || !krylov.Same(p, f, d.seenFrom(p, m)) {
					t.Fatalf("Min(%d, %v): %v", p, m, f)
				}
			}
		}
	}
}

// refused asks all that is asked of a matrix and a vector, for which there is an error alone.
func refused(t *testing.T, p uint64, m api.Mat, v []uint64) {
	t.Helper()
	for _, many := range []int{0, 1, 3} {
		if l, e := krylov.Powers(p, m, v, many); e != api.ErrArg || len(l) != 0 {
			t.Errorf("Powers(%d, %v, %v, %d): %v, %d", p, m, v, many, l, e)
		}
	}
	for _, f := range [][]uint64{nil, {1}, {0, 1}} {
		if x, e := krylov.Do(p, f, m, v); !none(x, e, api.ErrArg) {
			t.Errorf("Do(%d, %v, %v, %v): %v, %d", p, f, m, v, x, e)
		}
	}
	if f, e := krylov.Of(p, m, v); !none(f, e, api.ErrArg) {
		t.Errorf("Of(%d, %v, %v): %v, %d", p, m, v, f, e)
	}
}

// refusedAlone asks what is asked of a matrix alone, too.
func refusedAlone(t *testing.T, p uint64, m api.Mat, v []uint64) {
	t.Helper()
	refused(t, p, m, v)
	if f, e := krylov.Min(p, m); !none(f, e, api.ErrArg) {
		t.Errorf("Min(%d, %v): %v, %d", p, m, f, e)
	}
	for _, f := range [][]uint64{nil, {1}, {0, 1}} {
		if krylov.Same(p, f, m) {
			t.Errorf("Same(%d, %v, %v)", p, f, m)
		}
	}
}

func TestWrongMat(t *testing.T) {
	wrong := []api.Mat{
		{}, {Rows: 1, Cols: 1}, {Rows: 2, Cols: 2, Cells: []uint64{1, 2, 3}}, {Rows: 2, Cols: 2, Cells: []uint64{1, 2, 3, 4, 5}},
		{Rows: 2, Cols: 2, Cells: []uint64{1, 2, 3, 7}}, {Rows: 1, Cols: 1, Cells: []uint64{wholeWord}},
		{Rows: -1, Cols: -1, Cells: []uint64{1}}, {Rows: 65, Cols: 65, Cells: make([]uint64, 65*65)}, {Rows: 200, Cols: 200, Cells: make([]uint64, 200*200)},
		// Right, but not as wide as high.
		{Rows: 1, Cols: 2, Cells: []uint64{1, 2}}, {Rows: 2, Cols: 1, Cells: []uint64{1, 2}}, {Rows: 2, Cols: 3, Cells: make([]uint64, 6)}, {Rows: 64, Cols: 63, Cells: make([]uint64, 64*63)},
	}
	for _, n := range []int{0, -1, 65, math.MinInt, math.MaxInt, 1 << 32, 1 << 62} {
		wrong = append(wrong, api.Mat{Rows: n, Cols: n}, api.Mat{Rows: n, Cols: 1, Cells: []uint64{1}}, api.Mat{Rows: 1, Cols: n, Cells: []uint64{1}})
	}
	for _, m := range wrong {
		if m.Rows == 1 && m.Cols == 1 && slices.Equal(m.Cells, []uint64{1}) {
			continue
		}
		for _, n := range []int{m.Rows, m.Cols} {
			refusedAlone(t, 7, m, make([]uint64, max(0, min(n, 300))))
		}
	}
	right := mat([]uint64{1, 2}, []uint64{2, 4})
	for _, p := range append(wrongModuli(), 2, 3, 4) {
		refusedAlone(t, p, right, []uint64{0, 0})
	}
	for _, p := range wrongModuli() {
		refusedAlone(t, p, noughts(1), []uint64{0})
	}
}

// A wrong vector goes ahead of ErrZero.
func TestWrongVector(t *testing.T) {
	for _, c := range []struct {
		p uint64
		m api.Mat
	}{
		{7, mat([]uint64{1, 2}, []uint64{2, 4})},
		{4, mat([]uint64{2, 0}, []uint64{0, 0})},
		{7, one(2)},
	} {
		for _, v := range [][]uint64{nil, {}, {1}, {2, 2, 2}, {2, c.p}, {c.p, 0}, {0, c.p + 1}, {0, wholeWord}, make([]uint64, 64)} {
			refused(t, c.p, c.m, v)
		}
	}
}

// Where p isn't prime, what is told is what the words say, and the only one; where it isn't told, some number has no Inv.
func TestNotPrime(t *testing.T) {
	for _, c := range []little{{4, 1}, {4, 2}, {6, 1}, {6, 2}, {9, 1}, {15, 1}} {
		fs, vectors := polynomials(c.p, c.n), lists(c.p, c.n)
		told, not := 0, 0
		for _, m := range mats(c.p, c.n) {
			for _, v := range vectors {
				f, e := krylov.Of(c.p, m, v)
				// The powers as rows: from either side the same numbers are needed.
				_, want := cup.Take(c.p, mat(v, times(c.p, m, v)))
				if e != want {
					t.Fatalf("Of(%d, %v, %v): %v, %d, not %d", c.p, m, v, f, e, want)
				}
				if e != api.OK {
					not++
					if len(f) > 0 || e != api.ErrZero {
						t.Fatalf("Of(%d, %v, %v): %v, %d", c.p, m, v, f, e)
					}
					continue
				}
				told++
				if want := least(c.p, fs, m, [][]uint64{v}); len(want) != 1 || !slices.Equal(f, want[0]) {
					t.Fatalf("Of(%d, %v, %v): %v, not %v", c.p, m, v, f, want)
				}
			}
			f, e := krylov.Min(c.p, m)
			if e != api.OK {
				if !none(f, e, api.ErrZero) || krylov.Same(c.p, nil, m) {
					t.Fatalf("Min(%d, %v): %v, %d", c.p, m, f, e)
				}
				continue
			}
			if want := least(c.p, fs, m, vectors); len(want) != 1 || !slices.Equal(f, want[0]) || !krylov.Same(c.p, f, m) {
				t.Fatalf("Min(%d, %v): %v, not %v", c.p, m, f, want)
			}
		}
		if told == 0 || not == 0 {
			t.Error(c, told, not)
		}
	}
}

func TestNotPrimeKnown(t *testing.T) {
	for _, c := range []struct {
		p uint64
		m api.Mat
		v []uint64
	}{
		{4, one(1), []uint64{2}},
		{6, one(1), []uint64{3}},
		{4, noughts(2), []uint64{0, 2}},
		{4, noughts(2), []uint64{2, 1}}, // 1 has an Inv, but 2 stands first
		{4, mat([]uint64{1, 0}, []uint64{2, 1}), []uint64{1, 0}},
		{greatest, one(1), []uint64{649657}},
	} {
		if f, e := krylov.Of(c.p, c.m, c.v); !none(f, e, api.ErrZero) {
			t.Errorf("Of(%d, %v, %v): %v, %d", c.p, c.m, c.v, f, e)
		}
	}
	for _, c := range []struct {
		p uint64
		m api.Mat
	}{
		{4, mat([]uint64{0, 0}, []uint64{0, 2})}, // x and x - 2: their difference, 2, has no Inv
		{6, mat([]uint64{1, 0}, []uint64{0, 4})},
		{4, mat([]uint64{1, 2}, []uint64{0, 1})},
	} {
		if f, e := krylov.Min(c.p, c.m); !none(f, e, api.ErrZero) {
			t.Errorf("Min(%d, %v): %v, %d", c.p, c.m, f, e)
		}
	}
	for _, c := range []struct {
		p uint64
		m api.Mat
		f []uint64
	}{
		{4, mat([]uint64{2}), []uint64{2, 1}},
		{4, mat([]uint64{2, 0}, []uint64{0, 2}), []uint64{2, 1}},
		{4, mat([]uint64{0, 0}, []uint64{0, 1}), []uint64{0, 3, 1}},
		{6, noughts(2), []uint64{0, 1}},
		{6, mat([]uint64{2, 0}, []uint64{0, 3}), []uint64{0, 1, 1}}, // (x - 2)(x - 3)
		{greatest, one(3), []uint64{greatest - 1, 1}},
	} {
		if f := minOf(t, c.p, c.m); !slices.Equal(f, c.f) {
			t.Errorf("Min(%d, %v): %v, not %v", c.p, c.m, f, c.f)
		}
	}
	// 0 needs no Inv.
	for _, p := range others() {
		if f := of(t, p, noughts(2), []uint64{0, 0}); !slices.Equal(f, []uint64{1}) {
			t.Error(p, f)
		}
	}
}

// roomy is a copy with spare room behind it, filled with a mark.
func roomy(l []uint64) []uint64 {
	return append(slices.Clone(l), slices.Repeat([]uint64{wholeWord}, 80)...)[:len(l)]
}

func untouched(room, l []uint64) bool {
	all := room[:len(l)+80]
	return slices.Equal(all[:len(l)], l) && !slices.ContainsFunc(all[len(l):], func(x uint64) bool { return x != wholeWord })
}

func spoil(answer []uint64) {
	answer = answer[:cap(answer)]
	for i := range answer {
		answer[i] = 3
	}
}

// What is handed in isn't changed, nor its spare room; an answer shares nothing with it, nor with the next one.
func TestMemory(t *testing.T) {
	calls := []func(p uint64, f []uint64, m api.Mat, v []uint64) []uint64{
		func(p uint64, _ []uint64, m api.Mat, v []uint64) []uint64 {
			l, _ := krylov.Powers(p, m, v, 1)
			return l[0]
		},
		func(p uint64, _ []uint64, m api.Mat, v []uint64) []uint64 {
			l, _ := krylov.Powers(p, m, v, 3)
			return l[2]
		},
		func(p uint64, f []uint64, m api.Mat, v []uint64) []uint64 { x, _ := krylov.Do(p, f, m, v); return x },
		func(p uint64, f []uint64, m api.Mat, v []uint64) []uint64 {
			x, _ := krylov.Do(p, f[:0], m, v)
			return x
		},
		func(p uint64, f []uint64, m api.Mat, v []uint64) []uint64 {
			x, _ := krylov.Do(p, f[len(f)-1:], m, v)
			return x
		},
		func(p uint64, _ []uint64, m api.Mat, v []uint64) []uint64 { f, _ := krylov.Of(p, m, v); return f },
		func(p uint64, _ []uint64, m api.Mat, _ []uint64) []uint64 { f, _ := krylov.Min(p, m); return f },
		func(p uint64, f []uint64, _ api.Mat, _ []uint64) []uint64 {
			m, _ := krylov.Companion(p, f)
			return m.Cells
		},
		func(p uint64, f []uint64, m api.Mat, _ []uint64) []uint64 { krylov.Same(p, f, m); return nil },
	}
	d := dice(10)
	for _, p := range []uint64{2, 7, 4, bigPrime} {
		for _, n := range []int{1, 2, 5, 9} {
			for _, m := range []api.Mat{d.mat(p, n), one(n)} {
				f, v := d.monic(p, n), d.list(p, n)
				for i, call := range calls {
					terms, cells, vector := roomy(f), roomy(m.Cells), roomy(v)
					given := api.Mat{Rows: n, Cols: n, Cells: cells}
					answer := call(p, terms, given, vector)
					want := slices.Clone(answer)
					spoil(answer)
					if !untouched(terms, f) || !untouched(cells, m.Cells) || !untouched(vector, v) {
						t.Fatalf("call %d changes what it is given, or shares with it: %d, %v, %v, %v", i, p, f, m, v)
					}
					if !slices.Equal(call(p, terms, given, vector), want) {
						t.Fatalf("call %d answers another time otherwise: %d, %v, %v, %v", i, p, f, m, v)
					}
				}
			}
		}
	}
}

// No two of the powers share memory.
func TestPowersMemory(t *testing.T) {
	for _, m := range []api.Mat{one(3), noughts(3), mat([]uint64{0, 1, 0}, []uint64{0, 0, 1}, []uint64{1, 0, 0})} {
		want, _ := krylov.Powers(7, m, []uint64{4, 5, 6}, 6)
		for i := range want {
			l, e := krylov.Powers(7, m, []uint64{4, 5, 6}, 6)
			spoil(l[i])
			for k := range l {
				if e != api.OK || k != i && !slices.Equal(l[k], want[k]) {
					t.Fatalf("the powers %d and %d of %v share", i, k, m)
				}
			}
		}
	}
}
