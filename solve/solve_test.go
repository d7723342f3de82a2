package solve_test

import (
	"math"
	"math/bits"
	"slices"
	"testing"

	"affidavit/api"
	"affidavit/cup"
	"affidavit/solve"
)

const (
	greatest  = math.MaxInt64 // the greatest modulus: 7 * 7 * 73 * 127 * 337 * 92737 * 649657
	bigPrime  = greatest - 24 // the greatest prime below it
	beyond    = api.MostPrime // the least that is too great
	mersenne  = 1<<61 - 1     // a prime
	halfWord  = 1<<32 - 5     // the greatest prime of 32 bits
	wholeWord = math.MaxUint64
)

func primes() []uint64 { return []uint64{2, 3, 5, 7, 101, 65537, halfWord, mersenne, bigPrime} }

func others() []uint64 { return []uint64{4, 6, 9, 15, 1 << 32, greatest - 1, greatest} }

func wrongModuli() []uint64 {
	return []uint64{0, 1, beyond, beyond + 1, beyond + 25, wholeWord}
}

// dice makes numbers that look like chance and are the same each time.
type dice uint64

func (d *dice) word() uint64 {
	*d ^= *d << 13
	*d ^= *d >> 7
	*d ^= *d << 17
	return uint64(*d)
}

// list of just so many numbers, noughts and the greatest now and then.
func (d *dice) list(p uint64, many int) []uint64 {
	l := make([]uint64, many)
	for i := range l {
		switch d.word() % 6 {
		case 0:
		case 1:
			l[i] = p - 1
		default:
			l[i] = d.word() % p
		}
	}
	return l
}

func (d *dice) mat(p uint64, rows, cols int) api.Mat {
	return api.Mat{Rows: rows, Cols: cols, Cells: d.list(p, rows*cols)}
}

// poor has a rank of at most so much, and a column now and then is 0.
func (d *dice) poor(p uint64, rows, cols, rank int) api.Mat {
	if rank == 0 {
		return api.Mat{Rows: rows, Cols: cols, Cells: make([]uint64, rows*cols)}
	}
	m := product(p, d.mat(p, rows, rank), d.mat(p, rank, cols))
	for j := range cols {
		if d.word()%4 > 0 {
			continue
		}
		for i := range rows {
			m.Cells[i*cols+j] = 0
		}
	}
	return m
}

// mats of a modulus: of all shapes, whole and poor ones.
func (d *dice) mats(p uint64) []api.Mat {
	var l []api.Mat
	for _, sides := range [][2]int{{1, 1}, {1, 2}, {2, 1}, {2, 2}, {2, 3}, {3, 2}, {4, 4}, {5, 9}, {9, 5}, {12, 12}, {1, 64}, {64, 1}, {20, 33}} {
		rows, cols := sides[0], sides[1]
		for _, rank := range []int{0, 1, 1 + int(d.word()%12), min(rows, cols)} {
			l = append(l, d.poor(p, rows, cols, min(rank, rows, cols)))
		}
		l = append(l, d.mat(p, rows, cols))
	}
	for n := 1; n <= 9; n++ {
		l = append(l, d.mat(p, n, n))
	}
	return append(l, d.mat(p, 64, 64), d.poor(p, 64, 64, 40), d.mat(p, 63, 64), d.mat(p, 64, 63))
}

// allLists of so many numbers below most.
func allLists(most uint64, many int) [][]uint64 {
	lists := [][]uint64{nil}
	for range many {
		var longer [][]uint64
		for _, l := range lists {
			for x := range most {
				longer = append(longer, append(slices.Clone(l), x))
			}
		}
		lists = longer
	}
	return lists
}

func allMats(p uint64, rows, cols int) []api.Mat {
	var l []api.Mat
	for _, cells := range allLists(p, rows*cols) {
		l = append(l, api.Mat{Rows: rows, Cols: cols, Cells: cells})
	}
	return l
}

// mat of rows that are written out.
func mat(rows ...[]uint64) api.Mat {
	return api.Mat{Rows: len(rows), Cols: len(rows[0]), Cells: slices.Concat(rows...)}
}

// The slow ways: by products of two words and what is left of them, number by number.

func mul(p, a, b uint64) uint64 {
	high, low := bits.Mul64(a, b)
	return bits.Rem64(high, low, p)
}

func sum(p, a, b uint64) uint64 {
	low, high := bits.Add64(a, b, 0)
	return bits.Rem64(high, low, p)
}

func dot(p uint64, a, b []uint64) uint64 {
	var s uint64
	for i := range a {
		s = sum(p, s, mul(p, a[i], b[i]))
	}
	return s
}

// turned: rows for columns.
func turned(m api.Mat) api.Mat {
	u := api.Mat{Rows: m.Cols, Cols: m.Rows}
	for j := range m.Cols {
		for i := range m.Rows {
			u.Cells = append(u.Cells, m.Cells[i*m.Cols+j])
		}
	}
	return u
}

func times(p uint64, m api.Mat, x []uint64) []uint64 {
	var y []uint64
	for row := range slices.Chunk(m.Cells, m.Cols) {
		y = append(y, dot(p, row, x))
	}
	return y
}

func product(p uint64, a, b api.Mat) api.Mat {
	u := api.Mat{Rows: b.Cols, Cols: a.Rows}
	for column := range slices.Chunk(turned(b).Cells, b.Rows) {
		u.Cells = append(u.Cells, times(p, a, column)...)
	}
	return turned(u)
}

func one(n int) []uint64 {
	cells := make([]uint64, n*n)
	for i := range n {
		cells[i*n+i] = 1
	}
	return cells
}

func all0(l []uint64) bool { return !slices.ContainsFunc(l, func(x uint64) bool { return x != 0 }) }

// lacking are the numbers below many that a list lacks.
func lacking(l []int, many int) []int {
	var rest []int
	for i := range many {
		if !slices.Contains(l, i) {
			rest = append(rest, i)
		}
	}
	return rest
}

// noughtsBut tells whether a vector is 0 at all these places but one.
func noughtsBut(x []uint64, places []int, but int) bool {
	for _, j := range places {
		if j != but && x[j] != 0 {
			return false
		}
	}
	return true
}

// apart: a matrix's own rows and columns, and those that aren't.
type apart struct{ rows, cols, otherRows, otherCols []int }

func takeApart(t *testing.T, p uint64, m api.Mat) apart {
	t.Helper()
	c, e := cup.Take(p, m)
	if e != api.OK {
		t.Fatalf("Take(%d, %v): %d", p, m, e)
	}
	return apart{c.Rows, c.Cols, lacking(c.Rows, m.Rows), lacking(c.Cols, m.Cols)}
}

// none tells whether there is nothing but an error.
func none(l []uint64, e, want api.Errno) bool { return e == want && len(l) == 0 }

func noMat(m api.Mat, e, want api.Errno) bool {
	return m.Rows == 0 && m.Cols == 0 && len(m.Cells) == 0 && e == want
}

// refused asks everything for which there is an error alone.
func refused(t *testing.T, p uint64, m api.Mat, b []uint64, i int, want api.Errno) {
	t.Helper()
	if x, e := solve.Solve(p, m, b); !none(x, e, want) {
		t.Errorf("Solve(%d, %v, %v): %v, %d, not %d", p, m, b, x, e, want)
	}
	if y, e := solve.Against(p, m, b); !none(y, e, want) {
		t.Errorf("Against(%d, %v, %v): %v, %d, not %d", p, m, b, y, e, want)
	}
	if y, e := solve.Rows(p, m, i); !none(y, e, want) {
		t.Errorf("Rows(%d, %v, %d): %v, %d, not %d", p, m, i, y, e, want)
	}
	alone(t, p, m, want)
}

// alone asks all that is asked of a matrix alone, and for which there is an error.
func alone(t *testing.T, p uint64, m api.Mat, want api.Errno) {
	t.Helper()
	if x, e := solve.Kernel(p, m); !none(x, e, want) {
		t.Errorf("Kernel(%d, %v): %v, %d, not %d", p, m, x, e, want)
	}
	if y, e := solve.Left(p, m); !none(y, e, want) {
		t.Errorf("Left(%d, %v): %v, %d, not %d", p, m, y, e, want)
	}
	if m.Rows != m.Cols {
		want = api.ErrArg
	}
	if n, e := solve.Inverse(p, m); !noMat(n, e, want) {
		t.Errorf("Inverse(%d, %v): %v, %d, not %d", p, m, n, e, want)
	}
}

// unmade holds a vector that takes the matrix to 0 by the row i against what the document says of it.
func unmade(t *testing.T, p uint64, m api.Mat, a apart, i int, y []uint64, e api.Errno) {
	t.Helper()
	if e != api.OK || len(y) != m.Rows || y[i] != 1 || !noughtsBut(y, a.otherRows, i) || !all0(times(p, turned(m), y)) {
		t.Fatalf("modulo %d, %v, row %d: %v, %d", p, m, i, y, e)
	}
}

// rowsHold asks for each row, and for Left. The answers of Rows are told.
func rowsHold(t *testing.T, p uint64, m api.Mat, a apart) [][]uint64 {
	t.Helper()
	told := make([][]uint64, m.Rows)
	for i := range m.Rows {
		y, e := solve.Rows(p, m, i)
		if slices.Contains(a.rows, i) {
			if !none(y, e, api.ErrNone) {
				t.Fatalf("Rows(%d, %v, %d): %v, %d, but it is its own", p, m, i, y, e)
			}
			continue
		}
		unmade(t, p, m, a, i, y, e)
		told[i] = y
	}
	y, e := solve.Left(p, m)
	if len(a.otherRows) == 0 {
		if !none(y, e, api.ErrNone) {
			t.Fatalf("Left(%d, %v): %v, %d, but all are its own", p, m, y, e)
		}
	} else if e != api.OK || !slices.Equal(y, told[a.otherRows[0]]) {
		t.Fatalf("Left(%d, %v): %v, %d, not %v", p, m, y, e, told[a.otherRows[0]])
	}
	return told
}

func kernelHolds(t *testing.T, p uint64, m api.Mat, a apart) {
	t.Helper()
	x, e := solve.Kernel(p, m)
	if len(a.otherCols) == 0 {
		if !none(x, e, api.ErrNone) {
			t.Fatalf("Kernel(%d, %v): %v, %d, but all are its own", p, m, x, e)
		}
		return
	}
	first := a.otherCols[0]
	if e != api.OK || len(x) != m.Cols || x[first] != 1 || !noughtsBut(x, a.otherCols, first) || !all0(times(p, m, x)) {
		t.Fatalf("Kernel(%d, %v): %v, %d", p, m, x, e)
	}
}

func inverseHolds(t *testing.T, p uint64, m api.Mat, a apart) {
	t.Helper()
	n, e := solve.Inverse(p, m)
	if m.Rows != m.Cols {
		if !noMat(n, e, api.ErrArg) {
			t.Fatalf("Inverse(%d, %v): %v, %d, but it isn't as wide as high", p, m, n, e)
		}
		return
	}
	if len(a.rows) < m.Rows {
		if !noMat(n, e, api.ErrNone) {
			t.Fatalf("Inverse(%d, %v): %v, %d, but the rank is less", p, m, n, e)
		}
		return
	}
	if e != api.OK || n.Rows != m.Rows || n.Cols != m.Cols || len(n.Cells) != len(m.Cells) {
		t.Fatalf("Inverse(%d, %v): %v, %d", p, m, n, e)
	}
	if !slices.Equal(product(p, m, n).Cells, one(m.Rows)) || !slices.Equal(product(p, n, m).Cells, one(m.Rows)) {
		t.Fatalf("Inverse(%d, %v): %v, which doesn't make One of it", p, m, n)
	}
}

// solveHolds asks for a solution, and against it. A y that takes m to 0, but not b, shows that there is no x, modulo any p.
func solveHolds(t *testing.T, p uint64, m api.Mat, a apart, told [][]uint64, b []uint64) bool {
	t.Helper()
	x, e := solve.Solve(p, m, b)
	y, against := solve.Against(p, m, b)
	for i, want := range told {
		if want == nil || dot(p, want, b) == 0 {
			continue
		}
		if against != api.OK || !slices.Equal(y, want) || !none(x, e, api.ErrNone) {
			t.Fatalf("modulo %d, %v, %v: x %v, %d; against %v, %d, not that of the row %d", p, m, b, x, e, y, against, i)
		}
		return false
	}
	if !none(y, against, api.ErrNone) || e != api.OK || len(x) != m.Cols ||
		!noughtsBut(x, a.otherCols, -1) || !slices.Equal(times(p, m, x), b) {
		t.Fatalf("modulo %d, %v, %v: x %v, %d; against %v, %d", p, m, b, x, e, y, against)
	}
	return true
}

// rightSides of a matrix: made by it, nearly so, and any.
func rightSides(p uint64, m api.Mat, d *dice) [][]uint64 {
	l := [][]uint64{make([]uint64, m.Rows), slices.Repeat([]uint64{p - 1}, m.Rows)}
	for range 3 {
		b := times(p, m, d.list(p, m.Cols))
		near := slices.Clone(b)
		i := int(d.word() % uint64(m.Rows))
		near[i] = sum(p, near[i], 1)
		l = append(l, b, near, d.list(p, m.Rows))
	}
	return l
}

// overMats calls for many matrices of each modulus that can be taken apart.
func overMats(t *testing.T, seed uint64, moduli []uint64, hold func(d *dice, p uint64, m api.Mat, a apart)) {
	t.Helper()
	d := dice(seed)
	for _, p := range moduli {
		for _, m := range d.mats(p) {
			if _, e := cup.Take(p, m); e == api.OK {
				hold(&d, p, m, takeApart(t, p, m))
			}
		}
	}
}

func TestP8_1Solve(t *testing.T) {
	var solved, not int
	overMats(t, 1, slices.Concat(primes(), others()), func(d *dice, p uint64, m api.Mat, a apart) {
		told := rowsHold(t, p, m, a)
		for _, b := range rightSides(p, m, d) {
			if solveHolds(t, p, m, a, told, b) {
				solved++
			} else {
				not++
			}
		}
	})
	if solved < 1000 || not < 1000 {
		t.Error(solved, not)
	}
}

func TestP8_1Kernel(t *testing.T) {
	overMats(t, 2, slices.Concat(primes(), others()), func(_ *dice, p uint64, m api.Mat, a apart) {
		kernelHolds(t, p, m, a)
	})
}

func TestP8_1Known(t *testing.T) {
	for _, c := range []struct {
		p    uint64
		m    api.Mat
		b, x []uint64
	}{
		{7, mat([]uint64{1, 2}, []uint64{2, 4}), []uint64{1, 2}, []uint64{1, 0}},
		{7, mat([]uint64{1, 2}, []uint64{2, 4}), []uint64{1, 3}, nil},
		{7, mat([]uint64{1, 2}, []uint64{2, 4}), []uint64{0, 0}, []uint64{0, 0}},
		{7, mat([]uint64{0, 3}, []uint64{0, 1}), []uint64{6, 2}, []uint64{0, 2}},
		{7, mat([]uint64{0, 1}, []uint64{1, 0}), []uint64{3, 4}, []uint64{4, 3}}, // its own columns do not rise
		{7, mat([]uint64{0, 0}), []uint64{0}, []uint64{0, 0}},
		{7, mat([]uint64{0, 0}), []uint64{1}, nil},
		{2, mat([]uint64{1, 1, 1}), []uint64{1}, []uint64{1, 0, 0}},
		{7, mat([]uint64{2}, []uint64{3}), []uint64{3, 1}, []uint64{5}},
		{7, mat([]uint64{2}, []uint64{3}), []uint64{3, 2}, nil},
		{4, mat([]uint64{3, 2}), []uint64{2}, []uint64{2, 0}}, // 4 isn't prime, but 3 has an Inv
		{bigPrime, mat([]uint64{bigPrime - 1}), []uint64{1}, []uint64{bigPrime - 1}},
	} {
		want := api.OK
		if c.x == nil {
			want = api.ErrNone
		}
		if x, e := solve.Solve(c.p, c.m, c.b); e != want || !slices.Equal(x, c.x) {
			t.Errorf("Solve(%d, %v, %v): %v, %d, not %v", c.p, c.m, c.b, x, e, c.x)
		}
	}
	for _, c := range []struct {
		p uint64
		m api.Mat
		x []uint64
	}{
		{7, mat([]uint64{1, 2}, []uint64{2, 4}), []uint64{5, 1}},
		{7, mat([]uint64{1, 2}, []uint64{3, 4}), nil},
		{7, mat([]uint64{1, 2, 3, 0}), []uint64{5, 1, 0, 0}}, // the first column alone, though others aren't its own too
		{7, mat([]uint64{0, 0, 5}), []uint64{1, 0, 0}},
		{7, mat([]uint64{0}), []uint64{1}},
		{7, mat([]uint64{2}, []uint64{0}), nil},
		{7, mat([]uint64{0, 1, 3}, []uint64{1, 0, 2}), []uint64{5, 4, 1}},
		{2, mat([]uint64{1, 1}), []uint64{1, 1}},
	} {
		want := api.OK
		if c.x == nil {
			want = api.ErrNone
		}
		if x, e := solve.Kernel(c.p, c.m); e != want || !slices.Equal(x, c.x) {
			t.Errorf("Kernel(%d, %v): %v, %d, not %v", c.p, c.m, x, e, c.x)
		}
	}
}

// theOne tells which of the vectors takes a matrix to b and is 0 at all places but its own; and whether any does at all.
func theOne(t *testing.T, p uint64, m api.Mat, places []int, vectors [][]uint64, b []uint64) ([]uint64, bool) {
	t.Helper()
	var one []uint64
	any := false
	for _, x := range vectors {
		if !slices.Equal(times(p, m, x), b) {
			continue
		}
		any = true
		if noughtsBut(x, places, -1) {
			if one != nil {
				t.Fatalf("modulo %d, %v: %v and %v make %v", p, m, one, x, b)
			}
			one = x
		}
	}
	return one, any
}

// All little matrices and right sides, modulo primes and others: every x is tried.
func TestP8_1All(t *testing.T) {
	for _, c := range []struct {
		p          uint64
		rows, cols int
	}{{2, 1, 1}, {2, 2, 3}, {2, 3, 2}, {2, 3, 3}, {3, 2, 2}, {3, 1, 3}, {3, 3, 1}, {4, 1, 2}, {4, 2, 1}, {4, 2, 2}, {5, 1, 2}, {6, 1, 2}, {6, 2, 1}} {
		xs, bs := allLists(c.p, c.cols), allLists(c.p, c.rows)
		for _, m := range allMats(c.p, c.rows, c.cols) {
			if _, e := cup.Take(c.p, m); e != api.OK {
				refused(t, c.p, m, bs[0], 0, api.ErrZero)
				continue
			}
			a := takeApart(t, c.p, m)
			for _, b := range bs {
				want, any := theOne(t, c.p, m, a.otherCols, xs, b)
				x, e := solve.Solve(c.p, m, b)
				if any && (e != api.OK || !slices.Equal(x, want)) || !any && !none(x, e, api.ErrNone) {
					t.Fatalf("Solve(%d, %v, %v): %v, %d, not %v", c.p, m, b, x, e, want)
				}
				if y, e := solve.Against(c.p, m, b); (e == api.OK) == any {
					t.Fatalf("Against(%d, %v, %v): %v, %d, but there is an x: %v", c.p, m, b, y, e, any)
				}
			}
			kernelHolds(t, c.p, m, a)
			rowsHold(t, c.p, m, a)
			inverseHolds(t, c.p, m, a)
		}
	}
}

func TestP8_2Rows(t *testing.T) {
	overMats(t, 3, slices.Concat(primes(), others()), func(_ *dice, p uint64, m api.Mat, a apart) {
		rowsHold(t, p, m, a)
	})
}

func TestP8_2Known(t *testing.T) {
	rows := mat([]uint64{0, 0}, []uint64{1, 2}, []uint64{3, 6}, []uint64{0, 1}, []uint64{2, 6}, []uint64{5, 5})
	for i, want := range [][]uint64{{1, 0, 0, 0, 0, 0}, nil, {0, 4, 1, 0, 0, 0}, nil, {0, 5, 0, 5, 1, 0}, {0, 2, 0, 5, 0, 1}} {
		e := api.OK
		if want == nil {
			e = api.ErrNone
		}
		if y, is := solve.Rows(7, rows, i); is != e || !slices.Equal(y, want) {
			t.Errorf("row %d: %v, %d, not %v", i, y, is, want)
		}
	}
	if y, e := solve.Left(7, rows); e != api.OK || !slices.Equal(y, []uint64{1, 0, 0, 0, 0, 0}) {
		t.Error(y, e)
	}
	for _, c := range []struct{ b, y []uint64 }{
		{[]uint64{0, 1, 3, 1, 4, 0}, nil},
		{[]uint64{1, 1, 3, 1, 4, 0}, []uint64{1, 0, 0, 0, 0, 0}},
		{[]uint64{1, 1, 4, 1, 5, 1}, []uint64{1, 0, 0, 0, 0, 0}}, // the first one, though others would do
		{[]uint64{0, 1, 4, 1, 5, 1}, []uint64{0, 4, 1, 0, 0, 0}},
		{[]uint64{0, 1, 3, 1, 5, 1}, []uint64{0, 5, 0, 5, 1, 0}},
		{[]uint64{0, 1, 3, 1, 4, 1}, []uint64{0, 2, 0, 5, 0, 1}},
		{[]uint64{0, 0, 0, 0, 0, 0}, nil},
	} {
		e := api.OK
		if c.y == nil {
			e = api.ErrNone
		}
		if y, is := solve.Against(7, rows, c.b); is != e || !slices.Equal(y, c.y) {
			t.Errorf("against %v: %v, %d, not %v", c.b, y, is, c.y)
		}
	}
	document := mat([]uint64{1, 2}, []uint64{2, 4})
	if y, e := solve.Against(7, document, []uint64{1, 3}); e != api.OK || !slices.Equal(y, []uint64{5, 1}) {
		t.Error(y, e)
	}
	if y, e := solve.Against(7, document, []uint64{1, 2}); !none(y, e, api.ErrNone) {
		t.Error(y, e)
	}
	if y, e := solve.Left(7, mat([]uint64{1, 2}, []uint64{3, 4})); !none(y, e, api.ErrNone) {
		t.Error(y, e)
	}
}

// All little matrices: of all y, just one takes the matrix to 0 by a row that isn't its own, and none by one that is and those ahead.
func TestP8_2All(t *testing.T) {
	for _, c := range []struct {
		p          uint64
		rows, cols int
	}{{2, 3, 2}, {2, 4, 2}, {3, 3, 1}, {3, 2, 2}, {5, 2, 1}, {7, 2, 1}} {
		ys := allLists(c.p, c.rows)
		for _, m := range allMats(c.p, c.rows, c.cols) {
			a, u := takeApart(t, c.p, m), turned(m)
			for i := range m.Rows {
				var made [][]uint64
				for _, y := range ys {
					if y[i] == 1 && noughtsBut(y, a.otherRows, i) && all0(times(c.p, u, y)) {
						made = append(made, y)
					}
				}
				y, e := solve.Rows(c.p, m, i)
				if slices.Contains(a.rows, i) {
					if !none(y, e, api.ErrNone) {
						t.Fatalf("Rows(%d, %v, %d): %v, %d", c.p, m, i, y, e)
					}
				} else if len(made) != 1 || e != api.OK || !slices.Equal(y, made[0]) {
					t.Fatalf("Rows(%d, %v, %d): %v, %d, not %v", c.p, m, i, y, e, made)
				}
			}
		}
	}
}

func TestP8_3Inverse(t *testing.T) {
	inverses := 0
	overMats(t, 4, slices.Concat(primes(), others()), func(_ *dice, p uint64, m api.Mat, a apart) {
		inverseHolds(t, p, m, a)
		if m.Rows == m.Cols && len(a.rows) == m.Rows {
			inverses++
		}
	})
	if inverses < 100 {
		t.Error(inverses)
	}
}

func TestP8_3Known(t *testing.T) {
	for _, c := range []struct {
		p       uint64
		m, want api.Mat
	}{
		{7, mat([]uint64{3}), mat([]uint64{5})},
		{7, mat([]uint64{1, 2}, []uint64{3, 4}), mat([]uint64{5, 1}, []uint64{5, 3})},
		{7, mat([]uint64{0, 2}, []uint64{1, 0}), mat([]uint64{0, 1}, []uint64{4, 0})},
		{7, mat([]uint64{0, 1, 0}, []uint64{0, 0, 1}, []uint64{1, 0, 0}), mat([]uint64{0, 0, 1}, []uint64{1, 0, 0}, []uint64{0, 1, 0})},
		{2, mat([]uint64{1, 1}, []uint64{0, 1}), mat([]uint64{1, 1}, []uint64{0, 1})},
		{4, mat([]uint64{1, 2}, []uint64{2, 3}), mat([]uint64{1, 2}, []uint64{2, 3})},
	} {
		if n, e := solve.Inverse(c.p, c.m); e != api.OK || n.Rows != c.want.Rows || n.Cols != c.want.Cols || !slices.Equal(n.Cells, c.want.Cells) {
			t.Errorf("Inverse(%d, %v): %v, %d, not %v", c.p, c.m, n, e, c.want)
		}
	}
	for _, m := range []api.Mat{mat([]uint64{0}), mat([]uint64{1, 2}, []uint64{2, 4}), mat([]uint64{0, 0}, []uint64{0, 1})} {
		if n, e := solve.Inverse(7, m); !noMat(n, e, api.ErrNone) {
			t.Errorf("Inverse(7, %v): %v, %d", m, n, e)
		}
	}
}

func TestP8_4Either(t *testing.T) {
	overMats(t, 5, primes(), func(d *dice, p uint64, m api.Mat, a apart) {
		rank, e := cup.Rank(p, m)
		if e != api.OK {
			t.Fatal(e)
		}
		if _, e := solve.Kernel(p, m); (e == api.OK) != (rank < m.Cols) {
			t.Fatalf("Kernel(%d, %v): %d, the rank is %d", p, m, e, rank)
		}
		if _, e := solve.Left(p, m); (e == api.OK) != (rank < m.Rows) {
			t.Fatalf("Left(%d, %v): %d, the rank is %d", p, m, e, rank)
		}
		for _, b := range rightSides(p, m, d) {
			_, e := solve.Solve(p, m, b)
			_, against := solve.Against(p, m, b)
			if (e == api.OK) == (against == api.OK) || e != api.OK && e != api.ErrNone || against != api.OK && against != api.ErrNone {
				t.Fatalf("modulo %d, %v, %v: solved %d, against %d", p, m, b, e, against)
			}
		}
	})
}

// wrongMats of the modulus 7.
func wrongMats() []api.Mat {
	l := []api.Mat{
		{}, {Rows: 1, Cols: 1}, {Rows: 2, Cols: 2, Cells: []uint64{1, 2, 3}}, {Rows: 2, Cols: 2, Cells: []uint64{1, 2, 3, 4, 5}},
		{Rows: 2, Cols: 2, Cells: []uint64{1, 2, 3, 7}}, {Rows: 1, Cols: 1, Cells: []uint64{wholeWord}},
		{Rows: -1, Cols: -1, Cells: []uint64{1}}, {Rows: 65, Cols: 1, Cells: make([]uint64, 65)}, {Rows: 1, Cols: 65, Cells: make([]uint64, 65)},
	}
	for _, n := range []int{0, -1, 65, math.MinInt, math.MaxInt, 1 << 32, 1 << 62} {
		l = append(l, api.Mat{Rows: n, Cols: n}, api.Mat{Rows: n, Cols: 1, Cells: []uint64{1}}, api.Mat{Rows: 1, Cols: n, Cells: []uint64{1}})
	}
	return l
}

func TestWrongMat(t *testing.T) {
	for _, m := range wrongMats() {
		refused(t, 7, m, make([]uint64, max(0, min(m.Rows, 100))), 0, api.ErrArg)
	}
	right := mat([]uint64{1, 2}, []uint64{2, 4})
	for _, p := range append(wrongModuli(), 2, 3, 4) {
		refused(t, p, right, []uint64{0, 0}, 1, api.ErrArg)
	}
	for _, p := range wrongModuli() {
		refused(t, p, mat([]uint64{0}), []uint64{0}, 0, api.ErrArg)
	}
}

// What isn't right beside a matrix goes ahead of ErrZero and ErrNone.
func TestWrongBeside(t *testing.T) {
	for _, c := range []struct {
		p uint64
		m api.Mat
	}{
		{7, mat([]uint64{1, 2}, []uint64{2, 4})}, // nothing solves, and something is left over
		{7, mat([]uint64{1, 2}, []uint64{3, 4})},
		{4, mat([]uint64{2, 0}, []uint64{0, 0})}, // 2 has no Inv
		{7, mat([]uint64{1, 2, 3}, []uint64{0, 0, 0})},
	} {
		for _, b := range [][]uint64{nil, {}, {1}, {1, 1, 1}, {c.p, 0}, {0, c.p}, {0, wholeWord}} {
			if x, e := solve.Solve(c.p, c.m, b); !none(x, e, api.ErrArg) {
				t.Errorf("Solve(%d, %v, %v): %v, %d", c.p, c.m, b, x, e)
			}
			if y, e := solve.Against(c.p, c.m, b); !none(y, e, api.ErrArg) {
				t.Errorf("Against(%d, %v, %v): %v, %d", c.p, c.m, b, y, e)
			}
		}
		for _, i := range []int{-1, 2, 3, 64, math.MinInt, math.MaxInt} {
			if y, e := solve.Rows(c.p, c.m, i); !none(y, e, api.ErrArg) {
				t.Errorf("Rows(%d, %v, %d): %v, %d", c.p, c.m, i, y, e)
			}
		}
	}
	for _, m := range []api.Mat{mat([]uint64{2, 0}), mat([]uint64{2}, []uint64{0}), mat([]uint64{1, 0}), mat([]uint64{0}, []uint64{0})} {
		if n, e := solve.Inverse(4, m); !noMat(n, e, api.ErrArg) {
			t.Errorf("Inverse(4, %v): %v, %d", m, n, e)
		}
	}
}

// ErrZero goes ahead of ErrNone, and of what could be told all the same.
func TestZero(t *testing.T) {
	for _, c := range []struct {
		p uint64
		m api.Mat
	}{
		{4, mat([]uint64{2})},
		{6, mat([]uint64{3})},
		{4, mat([]uint64{1, 0}, []uint64{0, 2})},
		{4, mat([]uint64{2, 0}, []uint64{0, 0})},
		{4, mat([]uint64{0, 0}, []uint64{0, 2})},
		{4, mat([]uint64{2, 1})}, // 1 has one, but 2 stands first
		{6, mat([]uint64{1, 0, 0}, []uint64{5, 0, 4})},
		{greatest, mat([]uint64{649657})},
	} {
		for i := range c.m.Rows {
			for _, b := range [][]uint64{make([]uint64, c.m.Rows), slices.Repeat([]uint64{1}, c.m.Rows)} {
				refused(t, c.p, c.m, b, i, api.ErrZero)
			}
		}
	}
}

// roomy is a copy with spare room behind it, filled with a mark.
func roomy(l []uint64) []uint64 {
	return append(slices.Clone(l), slices.Repeat([]uint64{wholeWord}, 80)...)[:len(l)]
}

func untouched(room, l []uint64) bool {
	all := room[:len(l)+80]
	return slices.Equal(all[:len(l)], l) && !slices.ContainsFunc(all[len(l):], func(x uint64) bool { return x != wholeWord })
}

func spoil(answer []uint64) {
	answer = answer[:cap(answer)]
	for i := range answer {
		answer[i] = 3
	}
}

// What is handed in isn't changed, nor its spare room; an answer shares nothing with it, nor with the next one.
func TestMemory(t *testing.T) {
	calls := []func(p uint64, m api.Mat, b []uint64) []uint64{
		func(p uint64, m api.Mat, b []uint64) []uint64 { x, _ := solve.Solve(p, m, b); return x },
		func(p uint64, m api.Mat, b []uint64) []uint64 { y, _ := solve.Against(p, m, b); return y },
		func(p uint64, m api.Mat, _ []uint64) []uint64 { x, _ := solve.Kernel(p, m); return x },
		func(p uint64, m api.Mat, _ []uint64) []uint64 { y, _ := solve.Left(p, m); return y },
		func(p uint64, m api.Mat, _ []uint64) []uint64 { n, _ := solve.Inverse(p, m); return n.Cells },
		func(p uint64, m api.Mat, _ []uint64) []uint64 { y, _ := solve.Rows(p, m, m.Rows-1); return y },
	}
	overMats(t, 6, []uint64{2, 7, 4, bigPrime}, func(d *dice, p uint64, m api.Mat, _ apart) {
		for _, b := range rightSides(p, m, d)[:4] {
			for i, call := range calls {
				cells, side := roomy(m.Cells), roomy(b)
				given := api.Mat{Rows: m.Rows, Cols: m.Cols, Cells: cells}
				answer := call(p, given, side)
				want := slices.Clone(answer)
				spoil(answer)
				if !untouched(cells, m.Cells) || !untouched(side, b) {
					t.Fatalf("call %d changes what it is given, or shares with it: %d, %v, %v", i, p, m, b)
				}
				if !slices.Equal(call(p, given, side), want) {
					t.Fatalf("call %d answers another time otherwise: %d, %v, %v", i, p, m, b)
				}
			}
		}
	})
}
