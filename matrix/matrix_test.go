package matrix_test

import (
	"fmt"
	"math"
	"math/big"
	"slices"
	"testing"

	"affidavit/api"
	"affidavit/matrix"
)

const (
	greatest  = math.MaxInt64 // the greatest modulus: 7 * 7 * 73 * 127 * 337 * 92737 * 649657
	bigPrime  = greatest - 24 // the greatest prime below it
	beyond    = api.MostPrime // the least that is too great
	mersenne  = 1<<61 - 1     // a prime
	halfWord  = 1<<32 - 5     // the greatest prime of 32 bits
	wholeWord = math.MaxUint64
)

func wrongModuli() []uint64 {
	return []uint64{0, 1, beyond, beyond + 1, beyond + 25, wholeWord}
}

// moduli that may be, prime or not.
func moduli() []uint64 {
	return []uint64{2, 3, 5, 7, 101, 65537, halfWord, mersenne, bigPrime, 4, 6, 9, 12, 1 << 32, 1 << 62, greatest - 1, greatest}
}

func wrongSides() []int {
	return []int{0, -1, 65, 66, -64, math.MinInt, math.MaxInt, 1 << 32, 1 << 62}
}

// dice makes numbers that look like chance and are the same each time.
type dice uint64

func (d *dice) word() uint64 {
	*d ^= *d << 13
	*d ^= *d >> 7
	*d ^= *d << 17
	return uint64(*d)
}

func (d *dice) below(n int) int { return int(d.word() % uint64(n)) }

// list of just so many numbers, noughts and the greatest now and then.
func (d *dice) list(p uint64, many int) []uint64 {
	l := make([]uint64, many)
	for i := range l {
		switch d.word() % 6 {
		case 0:
		case 1:
			l[i] = p - 1
		default:
			l[i] = d.word() % p
		}
	}
	return l
}

func (d *dice) mat(p uint64, rows, cols int) api.Mat {
	return api.Mat{Rows: rows, Cols: cols, Cells: d.list(p, rows*cols)}
}

// thinMat has mostly noughts, and now and then a row of nothing else.
func (d *dice) thinMat(p uint64, rows, cols int) api.Mat {
	m := d.mat(p, rows, cols)
	for i := range m.Cells {
		if d.word()%4 != 0 || i/cols%3 == 1 {
			m.Cells[i] = 0
		}
	}
	return m
}

type shape struct{ rows, cols int }

func shapes() []shape {
	return []shape{{1, 1}, {1, 2}, {2, 1}, {2, 2}, {2, 3}, {3, 2}, {4, 4}, {5, 9}, {1, 64}, {64, 1}, {63, 64}, {64, 64}}
}

// lists of just so many numbers of a small modulus, all of them.
func lists(p uint64, many int) [][]uint64 {
	all := [][]uint64{nil}
	for range many {
		var longer [][]uint64
		for _, l := range all {
			for x := range p {
				longer = append(longer, append(slices.Clone(l), x))
			}
		}
		all = longer
	}
	return all
}

// places is all lists of up to so many numbers from low to high.
func places(low, high, most int) [][]int {
	var all [][]int
	for many := range most + 1 {
		for _, l := range lists(uint64(high-low+1), many) {
			var shifted []int
			for _, x := range l {
				shifted = append(shifted, low+int(x))
			}
			all = append(all, shifted)
		}
	}
	return all
}

func mats(p uint64, rows, cols int) []api.Mat {
	var all []api.Mat
	for _, l := range lists(p, rows*cols) {
		all = append(all, api.Mat{Rows: rows, Cols: cols, Cells: l})
	}
	return all
}

func word(x uint64) *big.Int { return new(big.Int).SetUint64(x) }

// cell of a matrix, from the words of the document alone.
func cell(m api.Mat, i, j int) uint64 { return m.Cells[m.Cols*i+j] }

// sum of so many products modulo p, by math/big.
func sum(p uint64, many int, product func(k int) (a, b uint64)) uint64 {
	s := new(big.Int)
	for k := range many {
		a, b := product(k)
		s.Add(s, new(big.Int).Mul(word(a), word(b)))
	}
	return s.Mod(s, word(p)).Uint64()
}

func slowTimes(p uint64, m api.Mat, x []uint64) []uint64 {
	var y []uint64
	for i := range m.Rows {
		y = append(y, sum(p, m.Cols, func(k int) (uint64, uint64) { return cell(m, i, k), x[k] }))
	}
	return y
}

func slowLeft(p uint64, x []uint64, m api.Mat) []uint64 {
	var y []uint64
	for j := range m.Cols {
		y = append(y, sum(p, m.Rows, func(k int) (uint64, uint64) { return x[k], cell(m, k, j) }))
	}
	return y
}

func slowMul(p uint64, a, b api.Mat) api.Mat {
	c := api.Mat{Rows: a.Rows, Cols: b.Cols}
	for i := range a.Rows {
		for j := range b.Cols {
			c.Cells = append(c.Cells, sum(p, a.Cols, func(k int) (uint64, uint64) { return cell(a, i, k), cell(b, k, j) }))
		}
	}
	return c
}

func slowTurn(m api.Mat) api.Mat {
	u := api.Mat{Rows: m.Cols, Cols: m.Rows}
	for j := range m.Cols {
		for i := range m.Rows {
			u.Cells = append(u.Cells, cell(m, i, j))
		}
	}
	return u
}

func slowThin(m api.Mat) api.Sparse {
	s := api.Sparse{Rows: m.Rows, Cols: m.Cols, Begin: make([]int, m.Rows+1)}
	for at, x := range m.Cells {
		if x == 0 {
			continue
		}
		s.Col = append(s.Col, at%m.Cols)
		s.Val = append(s.Val, x)
		for i := at/m.Cols + 1; i <= m.Rows; i++ {
			s.Begin[i]++
		}
	}
	return s
}

func sameMat(a, b api.Mat) bool {
	return a.Rows == b.Rows && a.Cols == b.Cols && slices.Equal(a.Cells, b.Cells)
}

func sameSparse(a, b api.Sparse) bool {
	return a.Rows == b.Rows && a.Cols == b.Cols && slices.Equal(a.Begin, b.Begin) && slices.Equal(a.Col, b.Col) && slices.Equal(a.Val, b.Val)
}

func noMat(m api.Mat) bool { return m.Rows == 0 && m.Cols == 0 && len(m.Cells) == 0 }

func noSparse(s api.Sparse) bool {
	return s.Rows == 0 && s.Cols == 0 && len(s.Begin) == 0 && len(s.Col) == 0 && len(s.Val) == 0
}

// The calls, each held against the slow way.

func times(t *testing.T, p uint64, m api.Mat, x []uint64) []uint64 {
	t.Helper()
	want := slowTimes(p, m, x)
	if y, e := matrix.Times(p, m, x); e != api.OK || !slices.Equal(y, want) {
		t.Fatalf("Times(%d, %v, %v): %v, %d, not %v", p, m, x, y, e, want)
	}
	return want
}

func left(t *testing.T, p uint64, x []uint64, m api.Mat) []uint64 {
	t.Helper()
	want := slowLeft(p, x, m)
	if y, e := matrix.Left(p, x, m); e != api.OK || !slices.Equal(y, want) {
		t.Fatalf("Left(%d, %v, %v): %v, %d, not %v", p, x, m, y, e, want)
	}
	return want
}

func mul(t *testing.T, p uint64, a, b api.Mat) api.Mat {
	t.Helper()
	want := slowMul(p, a, b)
	c, e := matrix.Mul(p, a, b)
	if e != api.OK || !sameMat(c, want) || !matrix.Right(p, c) {
		t.Fatalf("Mul(%d, %v, %v): %v, %d, not %v", p, a, b, c, e, want)
	}
	return c
}

func turn(t *testing.T, p uint64, m api.Mat) api.Mat {
	t.Helper()
	want := slowTurn(m)
	u, e := matrix.Turn(p, m)
	if e != api.OK || !sameMat(u, want) || !matrix.Right(p, u) {
		t.Fatalf("Turn(%d, %v): %v, %d, not %v", p, m, u, e, want)
	}
	return u
}

// forms asks Thin and Whole, there and back.
func forms(t *testing.T, p uint64, m api.Mat) api.Sparse {
	t.Helper()
	want := slowThin(m)
	s, e := matrix.Thin(p, m)
	if e != api.OK || !sameSparse(s, want) || !matrix.SparseRight(p, s) {
		t.Fatalf("Thin(%d, %v): %v, %d, not %v", p, m, s, e, want)
	}
	w, e := matrix.Whole(p, s)
	if e != api.OK || !sameMat(w, m) {
		t.Fatalf("Whole(%d, %v): %v, %d, not %v", p, s, w, e, m)
	}
	return s
}

func sparse(t *testing.T, p uint64, m api.Mat, x, y []uint64) {
	t.Helper()
	s := slowThin(m)
	if l, e := matrix.SparseTimes(p, s, x); e != api.OK || !slices.Equal(l, slowTimes(p, m, x)) {
		t.Fatalf("SparseTimes(%d, %v, %v): %v, %d", p, s, x, l, e)
	}
	if l, e := matrix.SparseLeft(p, y, s); e != api.OK || !slices.Equal(l, slowLeft(p, y, m)) {
		t.Fatalf("SparseLeft(%d, %v, %v): %v, %d", p, y, s, l, e)
	}
}

// pick asks for each picked cell.
func pick(t *testing.T, p uint64, m api.Mat, rows, cols []int) {
	t.Helper()
	q, e := matrix.Pick(p, m, rows, cols)
	if e != api.OK || q.Rows != len(rows) || q.Cols != len(cols) || !matrix.Right(p, q) {
		t.Fatalf("Pick(%d, %v, %v, %v): %v, %d", p, m, rows, cols, q, e)
	}
	for i, from := range rows {
		for j, column := range cols {
			if cell(q, i, j) != cell(m, from, column) {
				t.Fatalf("Pick(%d, %v, %v, %v): %v", p, m, rows, cols, q)
			}
		}
	}
}

// wrongMats of a modulus that may be.
func wrongMats(p uint64) []api.Mat {
	l := []api.Mat{
		{},
		{Cells: []uint64{0}},
		{Rows: 1, Cols: 1},
		{Rows: 1, Cols: 1, Cells: []uint64{0, 0}},
		{Rows: 2, Cols: 3, Cells: make([]uint64, 5)},
		{Rows: 2, Cols: 3, Cells: make([]uint64, 7)},
		{Rows: 2, Cols: 3},
		{Rows: 64, Cols: 64, Cells: make([]uint64, 4095)},
		{Rows: 64, Cols: 64, Cells: make([]uint64, 4097)},
		{Rows: 64, Cols: 65, Cells: make([]uint64, 64*65)},
		{Rows: 65, Cols: 64, Cells: make([]uint64, 64*65)},
		{Rows: -2, Cols: -3, Cells: make([]uint64, 6)},
		{Rows: 1, Cols: 1, Cells: []uint64{p}},
		{Rows: 1, Cols: 1, Cells: []uint64{p + 1}},
		{Rows: 1, Cols: 1, Cells: []uint64{wholeWord}},
		{Rows: 2, Cols: 2, Cells: []uint64{0, 1, 1, p}},
		{Rows: 2, Cols: 2, Cells: []uint64{p, 1, 1, 0}},
		{Rows: 64, Cols: 64, Cells: append(make([]uint64, 4095), p)},
	}
	for _, n := range wrongSides() {
		many := max(0, min(n, 100))
		l = append(l,
			api.Mat{Rows: n, Cols: 1, Cells: make([]uint64, many)},
			api.Mat{Rows: 1, Cols: n, Cells: make([]uint64, many)},
			api.Mat{Rows: n, Cols: n},
			api.Mat{Rows: n, Cols: 4}, // 2^62 times 4 is 0, as words go
			api.Mat{Rows: n, Cols: n, Cells: make([]uint64, 1)})
	}
	return l
}

// wrongSparses of a modulus that may be.
func wrongSparses(p uint64) []api.Sparse {
	l := []api.Sparse{
		{},
		{Rows: 1, Cols: 1},
		{Rows: 1, Cols: 1, Begin: []int{0}},
		{Rows: 1, Cols: 1, Begin: []int{0, 0, 0}},
		{Rows: 1, Cols: 1, Begin: []int{0}, Col: []int{0}, Val: []uint64{1}},
		{Rows: 1, Cols: 1, Begin: []int{0, 1}},
		{Rows: 1, Cols: 1, Begin: []int{0, 1}, Col: []int{0}},
		{Rows: 1, Cols: 1, Begin: []int{0, 1}, Val: []uint64{1}},
		{Rows: 1, Cols: 1, Begin: []int{0, 0}, Col: []int{0}, Val: []uint64{1}},
		{Rows: 1, Cols: 1, Begin: []int{0, 0}, Col: []int{0}},
		{Rows: 1, Cols: 1, Begin: []int{0, 0}, Val: []uint64{1}},
		{Rows: 1, Cols: 1, Begin: []int{1, 1}, Col: []int{0}, Val: []uint64{1}},
		{Rows: 1, Cols: 1, Begin: []int{-1, 1}, Col: []int{0}, Val: []uint64{1}},
		{Rows: 1, Cols: 1, Begin: []int{-1, 0}},
		{Rows: 1, Cols: 1, Begin: []int{0, -1}},
		{Rows: 1, Cols: 1, Begin: []int{0, 2}, Col: []int{0, 0}, Val: []uint64{1, 1}},
		{Rows: 1, Cols: 1, Begin: []int{0, 2}, Col: []int{0}, Val: []uint64{1}},
		{Rows: 1, Cols: 1, Begin: []int{0, math.MaxInt}, Col: []int{0}, Val: []uint64{1}},
		{Rows: 1, Cols: 1, Begin: []int{0, 1}, Col: []int{1}, Val: []uint64{1}},
		{Rows: 1, Cols: 1, Begin: []int{0, 1}, Col: []int{-1}, Val: []uint64{1}},
		{Rows: 1, Cols: 1, Begin: []int{0, 1}, Col: []int{math.MinInt}, Val: []uint64{1}},
		{Rows: 1, Cols: 1, Begin: []int{0, 1}, Col: []int{math.MaxInt}, Val: []uint64{1}},
		{Rows: 1, Cols: 1, Begin: []int{0, 1}, Col: []int{0}, Val: []uint64{0}},
		{Rows: 1, Cols: 1, Begin: []int{0, 1}, Col: []int{0}, Val: []uint64{p}},
		{Rows: 1, Cols: 1, Begin: []int{0, 1}, Col: []int{0}, Val: []uint64{wholeWord}},
		{Rows: 1, Cols: 2, Begin: []int{0, 2}, Col: []int{1, 0}, Val: []uint64{1, 1}},
		{Rows: 1, Cols: 2, Begin: []int{0, 2}, Col: []int{1, 1}, Val: []uint64{1, 1}},
		{Rows: 1, Cols: 3, Begin: []int{0, 3}, Col: []int{0, 2, 1}, Val: []uint64{1, 1, 1}},
		{Rows: 1, Cols: 2, Begin: []int{0, 2}, Col: []int{0, 1}, Val: []uint64{1, 0}},
		{Rows: 1, Cols: 2, Begin: []int{0, 2}, Col: []int{0, 2}, Val: []uint64{1, 1}},
		{Rows: 2, Cols: 1, Begin: []int{0, 2, 1}, Col: []int{0}, Val: []uint64{1}},
		{Rows: 2, Cols: 1, Begin: []int{0, 9, 1}, Col: []int{0}, Val: []uint64{1}},
		{Rows: 2, Cols: 1, Begin: []int{0, -1, 1}, Col: []int{0}, Val: []uint64{1}},
		{Rows: 2, Cols: 1, Begin: []int{0, 2, 2}, Col: []int{0, 0}, Val: []uint64{1, 1}},
		{Rows: 2, Cols: 1, Begin: []int{0, 1}, Col: []int{0}, Val: []uint64{1}},
		{Rows: 2, Cols: 2, Begin: []int{0, 2, 4}, Col: []int{0, 1, 1, 0}, Val: []uint64{1, 1, 1, 1}},
		{Rows: 2, Cols: 1, Begin: []int{0, 1, 2}, Col: []int{0, 1}, Val: []uint64{1, 1}},
		{Rows: 64, Cols: 65, Begin: make([]int, 65)},
		{Rows: 65, Cols: 64, Begin: make([]int, 66)},
		{Rows: -1, Cols: 1, Begin: []int{}},
		{Rows: -1, Cols: 1, Begin: []int{0}},
	}
	for _, n := range wrongSides() {
		begin := make([]int, max(0, min(n, 100))+1)
		l = append(l,
			api.Sparse{Rows: n, Cols: 1, Begin: begin},
			api.Sparse{Rows: 1, Cols: n, Begin: []int{0, 0}},
			api.Sparse{Rows: n, Cols: n, Begin: begin})
	}
	return l
}

func TestP5_1Right(t *testing.T) {
	d := dice(1)
	for _, p := range moduli() {
		for _, sh := range shapes() {
			most := slices.Repeat([]uint64{p - 1}, sh.rows*sh.cols)
			for _, m := range []api.Mat{d.mat(p, sh.rows, sh.cols), {Rows: sh.rows, Cols: sh.cols, Cells: most}, {Rows: sh.rows, Cols: sh.cols, Cells: make([]uint64, len(most))}} {
				if !matrix.Right(p, m) {
					t.Errorf("%v is right modulo %d", m, p)
				}
				for _, wrong := range wrongModuli() {
					if matrix.Right(wrong, m) {
						t.Errorf("nothing is right modulo %d", wrong)
					}
				}
			}
		}
		for _, m := range wrongMats(p) {
			if matrix.Right(p, m) {
				t.Errorf("%v isn't right modulo %d", m, p)
			}
		}
	}
}

func TestP5_1SparseRight(t *testing.T) {
	d := dice(2)
	for _, p := range moduli() {
		for _, sh := range shapes() {
			none := api.Sparse{Rows: sh.rows, Cols: sh.cols, Begin: make([]int, sh.rows+1)}
			full := slowThin(api.Mat{Rows: sh.rows, Cols: sh.cols, Cells: slices.Repeat([]uint64{p - 1}, sh.rows*sh.cols)})
			for _, s := range []api.Sparse{none, full, slowThin(d.thinMat(p, sh.rows, sh.cols))} {
				if !matrix.SparseRight(p, s) {
					t.Errorf("%v is right modulo %d", s, p)
				}
				for _, wrong := range wrongModuli() {
					if matrix.SparseRight(wrong, s) {
						t.Errorf("nothing is right modulo %d", wrong)
					}
				}
			}
		}
		for _, s := range wrongSparses(p) {
			if matrix.SparseRight(p, s) {
				t.Errorf("%v isn't right modulo %d", s, p)
			}
		}
	}
}

// Of all little lists just those are right that some whole matrix is by what isn't 0.
func TestP5_1SparseRightAllSmall(t *testing.T) {
	const p = 3
	begins, columns := places(-1, 3, 3), places(-1, 2, 2)
	var numbers [][]uint64
	for many := range 3 {
		numbers = append(numbers, lists(p+1, many)...)
	}
	for _, sh := range []shape{{1, 1}, {1, 2}, {2, 1}, {2, 2}} {
		right := map[string]bool{}
		for _, m := range mats(p, sh.rows, sh.cols) {
			if s := slowThin(m); len(s.Col) <= 2 {
				right[fmt.Sprint(s)] = true
			}
		}
		found := 0
		for _, begin := range begins {
			for _, col := range columns {
				for _, val := range numbers {
					s := api.Sparse{Rows: sh.rows, Cols: sh.cols, Begin: begin, Col: col, Val: val}
					got := matrix.SparseRight(p, s)
					if got != right[fmt.Sprint(s)] {
						t.Fatalf("SparseRight(%d, %v): %t", p, s, got)
					}
					if got {
						found++
					}
				}
			}
		}
		if found != len(right) {
			t.Errorf("%d by %d: %d are right, not %d", sh.rows, sh.cols, found, len(right))
		}
	}
}

func TestP5_1Known(t *testing.T) {
	m := api.Mat{Rows: 2, Cols: 2, Cells: []uint64{1, 2, 3, 4}}
	if y, e := matrix.Times(101, m, []uint64{1, 1}); e != api.OK || !slices.Equal(y, []uint64{3, 7}) {
		t.Error(y, e)
	}
	if y, e := matrix.Left(101, []uint64{1, 1}, m); e != api.OK || !slices.Equal(y, []uint64{4, 6}) {
		t.Error(y, e)
	}
	if y, e := matrix.Times(7, m, []uint64{5, 6}); e != api.OK || !slices.Equal(y, []uint64{3, 4}) {
		t.Error(y, e)
	}
	a := api.Mat{Rows: 1, Cols: 2, Cells: []uint64{1, 2}}
	b := api.Mat{Rows: 2, Cols: 3, Cells: []uint64{1, 2, 3, 4, 5, 6}}
	if c, e := matrix.Mul(101, a, b); e != api.OK || !sameMat(c, api.Mat{Rows: 1, Cols: 3, Cells: []uint64{9, 12, 15}}) {
		t.Error(c, e)
	}
	if u, e := matrix.Turn(101, b); e != api.OK || !sameMat(u, api.Mat{Rows: 3, Cols: 2, Cells: []uint64{1, 4, 2, 5, 3, 6}}) {
		t.Error(u, e)
	}
	if i, e := matrix.One(3); e != api.OK || !sameMat(i, api.Mat{Rows: 3, Cols: 3, Cells: []uint64{1, 0, 0, 0, 1, 0, 0, 0, 1}}) {
		t.Error(i, e)
	}
}

func TestP5_1AllSmall(t *testing.T) {
	for _, p := range []uint64{2, 3, 4} {
		for _, sh := range []shape{{1, 1}, {1, 2}, {2, 1}, {2, 2}, {1, 3}, {3, 1}} {
			for _, m := range mats(p, sh.rows, sh.cols) {
				turn(t, p, m)
				for _, x := range lists(p, sh.cols) {
					times(t, p, m, x)
				}
				for _, x := range lists(p, sh.rows) {
					left(t, p, x, m)
				}
			}
		}
	}
	for _, a := range mats(3, 2, 2) {
		for _, b := range mats(3, 2, 2) {
			mul(t, 3, a, b)
		}
		for _, b := range mats(3, 2, 1) {
			mul(t, 3, a, b)
			mul(t, 3, slowTurn(b), a)
		}
	}
}

func TestP5_1EachModulus(t *testing.T) {
	d := dice(3)
	for _, p := range moduli() {
		for _, sh := range shapes() {
			many := sh.rows * sh.cols
			greatestOnes := api.Mat{Rows: sh.rows, Cols: sh.cols, Cells: slices.Repeat([]uint64{p - 1}, many)}
			for _, m := range []api.Mat{d.mat(p, sh.rows, sh.cols), greatestOnes} {
				turn(t, p, m)
				for _, x := range [][]uint64{d.list(p, sh.cols), make([]uint64, sh.cols), slices.Repeat([]uint64{p - 1}, sh.cols)} {
					times(t, p, m, x)
				}
				for _, x := range [][]uint64{d.list(p, sh.rows), make([]uint64, sh.rows), slices.Repeat([]uint64{p - 1}, sh.rows)} {
					left(t, p, x, m)
				}
			}
		}
		for _, n := range [][3]int{{1, 1, 1}, {1, 5, 1}, {5, 1, 5}, {2, 3, 4}, {4, 3, 2}, {1, 64, 1}, {64, 1, 2}, {7, 64, 9}} {
			mul(t, p, d.mat(p, n[0], n[1]), d.mat(p, n[1], n[2]))
		}
	}
	most := api.Mat{Rows: 64, Cols: 64, Cells: slices.Repeat([]uint64{greatest - 1}, 4096)}
	mul(t, greatest, most, most)
	mul(t, bigPrime, d.mat(bigPrime, 64, 64), d.mat(bigPrime, 64, 64))
	mul(t, 2, d.mat(2, 64, 1), d.mat(2, 1, 64))
}

func TestP5_1One(t *testing.T) {
	d := dice(4)
	for n := 1; n <= 64; n++ {
		one, e := matrix.One(n)
		if e != api.OK || one.Rows != n || one.Cols != n || len(one.Cells) != n*n || !matrix.Right(2, one) {
			t.Fatalf("One(%d): %v, %d", n, one, e)
		}
		for i := range n {
			for j := range n {
				if (i == j) != (cell(one, i, j) == 1) || i != j && cell(one, i, j) != 0 {
					t.Fatalf("One(%d): %v", n, one)
				}
			}
		}
		for _, p := range []uint64{2, 12, bigPrime} {
			x := d.list(p, n)
			if !slices.Equal(times(t, p, one, x), x) || !slices.Equal(left(t, p, x, one), x) {
				t.Errorf("One(%d) changes %v modulo %d", n, x, p)
			}
		}
	}
	for _, n := range wrongSides() {
		if one, e := matrix.One(n); e != api.ErrArg || !noMat(one) {
			t.Errorf("One(%d): %v, %d", n, one, e)
		}
	}
}

// refuses asks each call that takes a matrix and vectors for something that may not be.
func refuses(t *testing.T, p uint64, m api.Mat, x, y []uint64) {
	t.Helper()
	if l, e := matrix.Times(p, m, x); e != api.ErrArg || len(l) != 0 {
		t.Errorf("Times(%d, %v, %v): %v, %d", p, m, x, l, e)
	}
	if l, e := matrix.Left(p, y, m); e != api.ErrArg || len(l) != 0 {
		t.Errorf("Left(%d, %v, %v): %v, %d", p, y, m, l, e)
	}
}

func refusesMul(t *testing.T, p uint64, a, b api.Mat) {
	t.Helper()
	if c, e := matrix.Mul(p, a, b); e != api.ErrArg || !noMat(c) {
		t.Errorf("Mul(%d, %v, %v): %v, %d", p, a, b, c, e)
	}
}

func refusesMat(t *testing.T, p uint64, m api.Mat) {
	t.Helper()
	if u, e := matrix.Turn(p, m); e != api.ErrArg || !noMat(u) {
		t.Errorf("Turn(%d, %v): %v, %d", p, m, u, e)
	}
	if s, e := matrix.Thin(p, m); e != api.ErrArg || !noSparse(s) {
		t.Errorf("Thin(%d, %v): %v, %d", p, m, s, e)
	}
	if q, e := matrix.Pick(p, m, []int{0}, []int{0}); e != api.ErrArg || !noMat(q) {
		t.Errorf("Pick(%d, %v): %v, %d", p, m, q, e)
	}
}

// fit is a vector of as many numbers as a wrong matrix names, if that may be at all.
func fit(many int) []uint64 { return make([]uint64, max(0, min(many, 100))) }

func TestP5_1RefusesMatrices(t *testing.T) {
	for _, p := range moduli() {
		for _, m := range wrongMats(p) {
			refuses(t, p, m, fit(m.Cols), fit(m.Rows))
			refusesMat(t, p, m)
			refusesMul(t, p, m, m)
			for n := 1; n <= 64; n += 63 {
				one, _ := matrix.One(n)
				refusesMul(t, p, m, one)
				refusesMul(t, p, one, m)
			}
			if m.Rows > 0 && m.Rows <= 64 {
				refusesMul(t, p, api.Mat{Rows: 2, Cols: m.Rows, Cells: make([]uint64, 2*m.Rows)}, m)
			}
			if m.Cols > 0 && m.Cols <= 64 {
				refusesMul(t, p, m, api.Mat{Rows: m.Cols, Cols: 2, Cells: make([]uint64, 2*m.Cols)})
			}
		}
	}
	for _, p := range wrongModuli() {
		m := api.Mat{Rows: 2, Cols: 2, Cells: make([]uint64, 4)}
		refuses(t, p, m, []uint64{0, 0}, []uint64{0, 0})
		refusesMat(t, p, m)
		refusesMul(t, p, m, m)
	}
}

func TestP5_1RefusesVectors(t *testing.T) {
	d := dice(5)
	for _, p := range moduli() {
		for _, sh := range shapes() {
			m := d.mat(p, sh.rows, sh.cols)
			refuses(t, p, m, nil, nil)
			refuses(t, p, m, make([]uint64, sh.cols-1), make([]uint64, sh.rows-1))
			refuses(t, p, m, make([]uint64, sh.cols+1), make([]uint64, sh.rows+1))
			refuses(t, p, m, make([]uint64, 100000), make([]uint64, 100000))
			if sh.rows != sh.cols {
				refuses(t, p, m, make([]uint64, sh.rows), make([]uint64, sh.cols))
			}
			for _, x := range []uint64{p, p + 1, wholeWord} {
				refuses(t, p, m, append(make([]uint64, sh.cols-1), x), append(make([]uint64, sh.rows-1), x))
				refuses(t, p, m, append([]uint64{x}, make([]uint64, sh.cols-1)...), append([]uint64{x}, make([]uint64, sh.rows-1)...))
			}
		}
	}
}

// Matrices that don't meet.
func TestP5_1RefusesMul(t *testing.T) {
	d := dice(6)
	for _, p := range []uint64{2, 7, greatest} {
		for _, a := range shapes() {
			for _, b := range shapes() {
				if a.cols != b.rows {
					refusesMul(t, p, d.mat(p, a.rows, a.cols), d.mat(p, b.rows, b.cols))
				}
			}
		}
	}
}

func TestP5_2Forms(t *testing.T) {
	for _, p := range []uint64{2, 3, 4} {
		for _, sh := range []shape{{1, 1}, {1, 3}, {3, 1}, {2, 2}} {
			for _, m := range mats(p, sh.rows, sh.cols) {
				forms(t, p, m)
			}
		}
	}
	d := dice(7)
	for _, p := range moduli() {
		for _, sh := range shapes() {
			forms(t, p, d.mat(p, sh.rows, sh.cols))
			forms(t, p, d.thinMat(p, sh.rows, sh.cols))
			forms(t, p, api.Mat{Rows: sh.rows, Cols: sh.cols, Cells: make([]uint64, sh.rows*sh.cols)})
			forms(t, p, api.Mat{Rows: sh.rows, Cols: sh.cols, Cells: slices.Repeat([]uint64{p - 1}, sh.rows*sh.cols)})
		}
	}
}

func TestP5_2FormsKnown(t *testing.T) {
	m := api.Mat{Rows: 4, Cols: 3, Cells: []uint64{0, 0, 0, 0, 5, 6, 0, 0, 0, 1, 0, 0}}
	want := api.Sparse{Rows: 4, Cols: 3, Begin: []int{0, 0, 2, 2, 3}, Col: []int{1, 2, 0}, Val: []uint64{5, 6, 1}}
	if s, e := matrix.Thin(7, m); e != api.OK || !sameSparse(s, want) {
		t.Error(s, e)
	}
	if w, e := matrix.Whole(7, want); e != api.OK || !sameMat(w, m) {
		t.Error(w, e)
	}
	if y, e := matrix.SparseTimes(7, want, []uint64{1, 2, 3}); e != api.OK || !slices.Equal(y, []uint64{0, 0, 0, 1}) {
		t.Error(y, e)
	}
	if y, e := matrix.SparseLeft(7, []uint64{1, 2, 3, 4}, want); e != api.OK || !slices.Equal(y, []uint64{4, 3, 5}) {
		t.Error(y, e)
	}
}

func TestP5_2Sparse(t *testing.T) {
	for _, p := range []uint64{2, 3, 4} {
		for _, sh := range []shape{{1, 1}, {1, 2}, {2, 1}, {2, 2}} {
			for _, m := range mats(p, sh.rows, sh.cols) {
				for _, x := range lists(p, sh.cols) {
					for _, y := range lists(p, sh.rows) {
						sparse(t, p, m, x, y)
					}
				}
			}
		}
	}
	d := dice(8)
	for _, p := range moduli() {
		for _, sh := range shapes() {
			most := api.Mat{Rows: sh.rows, Cols: sh.cols, Cells: slices.Repeat([]uint64{p - 1}, sh.rows*sh.cols)}
			for _, m := range []api.Mat{d.mat(p, sh.rows, sh.cols), d.thinMat(p, sh.rows, sh.cols), most} {
				sparse(t, p, m, d.list(p, sh.cols), d.list(p, sh.rows))
				sparse(t, p, m, make([]uint64, sh.cols), make([]uint64, sh.rows))
				sparse(t, p, m, slices.Repeat([]uint64{p - 1}, sh.cols), slices.Repeat([]uint64{p - 1}, sh.rows))
			}
		}
	}
}

func refusesSparse(t *testing.T, p uint64, s api.Sparse, x, y []uint64) {
	t.Helper()
	if l, e := matrix.SparseTimes(p, s, x); e != api.ErrArg || len(l) != 0 {
		t.Errorf("SparseTimes(%d, %v, %v): %v, %d", p, s, x, l, e)
	}
	if l, e := matrix.SparseLeft(p, y, s); e != api.ErrArg || len(l) != 0 {
		t.Errorf("SparseLeft(%d, %v, %v): %v, %d", p, y, s, l, e)
	}
}

func refusesWhole(t *testing.T, p uint64, s api.Sparse) {
	t.Helper()
	if m, e := matrix.Whole(p, s); e != api.ErrArg || !noMat(m) {
		t.Errorf("Whole(%d, %v): %v, %d", p, s, m, e)
	}
}

func TestP5_2RefusesSparse(t *testing.T) {
	d := dice(9)
	for _, p := range moduli() {
		for _, s := range wrongSparses(p) {
			refusesWhole(t, p, s)
			refusesSparse(t, p, s, fit(s.Cols), fit(s.Rows))
		}
		for _, sh := range shapes() {
			s := slowThin(d.thinMat(p, sh.rows, sh.cols))
			refusesSparse(t, p, s, nil, nil)
			refusesSparse(t, p, s, make([]uint64, sh.cols-1), make([]uint64, sh.rows-1))
			refusesSparse(t, p, s, make([]uint64, sh.cols+1), make([]uint64, sh.rows+1))
			for _, x := range []uint64{p, p + 1, wholeWord} {
				refusesSparse(t, p, s, append(make([]uint64, sh.cols-1), x), append(make([]uint64, sh.rows-1), x))
			}
			// A number that meets nothing has to be one of p too.
			none := api.Sparse{Rows: sh.rows, Cols: sh.cols, Begin: make([]int, sh.rows+1)}
			refusesSparse(t, p, none, append(make([]uint64, sh.cols-1), p), append(make([]uint64, sh.rows-1), p))
		}
	}
	for _, p := range wrongModuli() {
		for _, s := range []api.Sparse{{Rows: 1, Cols: 1, Begin: []int{0, 0}}, {Rows: 1, Cols: 1, Begin: []int{0, 1}, Col: []int{0}, Val: []uint64{1}}} {
			refusesWhole(t, p, s)
			refusesSparse(t, p, s, []uint64{0}, []uint64{0})
		}
	}
}

func TestP5_2Pick(t *testing.T) {
	m := api.Mat{Rows: 2, Cols: 3, Cells: []uint64{1, 2, 3, 4, 5, 6}}
	if q, e := matrix.Pick(7, m, []int{1, 0, 1}, []int{2, 2}); e != api.OK || !sameMat(q, api.Mat{Rows: 3, Cols: 2, Cells: []uint64{6, 6, 3, 3, 6, 6}}) {
		t.Error(q, e)
	}
	for _, rows := range places(0, 1, 3) {
		for _, cols := range places(0, 2, 3) {
			if len(rows) > 0 && len(cols) > 0 {
				pick(t, 7, m, rows, cols)
			}
		}
	}
	d := dice(10)
	for _, p := range moduli() {
		for _, sh := range shapes() {
			m := d.mat(p, sh.rows, sh.cols)
			for _, many := range []shape{{1, 1}, {1, 64}, {64, 1}, {64, 64}, {3, 5}} {
				rows, cols := make([]int, many.rows), make([]int, many.cols)
				for i := range rows {
					rows[i] = d.below(sh.rows)
				}
				for j := range cols {
					cols[j] = d.below(sh.cols)
				}
				rows[0], cols[many.cols-1] = sh.rows-1, sh.cols-1
				pick(t, p, m, rows, cols)
			}
		}
	}
}

func TestP5_2PickRefuses(t *testing.T) {
	m := api.Mat{Rows: 2, Cols: 3, Cells: []uint64{1, 2, 3, 4, 5, 6}}
	nothing := func(p uint64, rows, cols []int) {
		t.Helper()
		if q, e := matrix.Pick(p, m, rows, cols); e != api.ErrArg || !noMat(q) {
			t.Errorf("Pick(%d, %v, %v, %v): %v, %d", p, m, rows, cols, q, e)
		}
	}
	for _, l := range [][]int{nil, {}, {-1}, {3}, {0, -1}, {-1, 0}, {0, 3, 0}, {math.MaxInt}, {math.MinInt}, {1, 1 << 32}, make([]int, 65), make([]int, 100000), append(make([]int, 63), 3), append(make([]int, 63), -1)} {
		nothing(7, l, []int{0})
		nothing(7, []int{0}, l)
		nothing(7, l, l)
	}
	nothing(7, []int{2}, []int{0}) // a column is there, a row isn't
	nothing(7, []int{0, 2}, []int{2})
	nothing(6, []int{0}, []int{0}) // all of the matrix is asked, not just what is picked
	for _, p := range wrongModuli() {
		nothing(p, []int{0}, []int{0})
	}
}

// vectorsAgree asks on which side of a product a vector is taken first.
func vectorsAgree(t *testing.T, p uint64, a, b api.Mat, x, y []uint64) {
	t.Helper()
	c := mul(t, p, a, b)
	if !slices.Equal(times(t, p, c, x), times(t, p, a, times(t, p, b, x))) {
		t.Errorf("(A B) x isn't A (B x) modulo %d: %v, %v, %v", p, a, b, x)
	}
	if !slices.Equal(left(t, p, y, c), left(t, p, left(t, p, y, a), b)) {
		t.Errorf("x (A B) isn't (x A) B modulo %d: %v, %v, %v", p, a, b, y)
	}
	if !sameMat(turn(t, p, c), mul(t, p, turn(t, p, b), turn(t, p, a))) {
		t.Errorf("turned, a product isn't the turned ones' the other way round, modulo %d: %v, %v", p, a, b)
	}
}

func TestP5_3Products(t *testing.T) {
	for _, a := range mats(2, 2, 2) {
		for _, b := range mats(2, 2, 2) {
			for _, x := range lists(2, 2) {
				vectorsAgree(t, 2, a, b, x, x)
			}
		}
	}
	d := dice(11)
	for _, p := range moduli() {
		for range 20 {
			n, k, m := 1+d.below(9), 1+d.below(9), 1+d.below(9)
			vectorsAgree(t, p, d.mat(p, n, k), d.mat(p, k, m), d.list(p, m), d.list(p, n))
			vectorsAgree(t, p, d.thinMat(p, n, k), d.thinMat(p, k, m), d.list(p, m), d.list(p, n))
		}
		vectorsAgree(t, p, d.mat(p, 64, 2), d.mat(p, 2, 64), d.list(p, 64), d.list(p, 64))
	}
	vectorsAgree(t, greatest, d.mat(greatest, 64, 64), d.mat(greatest, 64, 64), d.list(greatest, 64), d.list(greatest, 64))
}

// Turned, a vector comes from the other side; turned twice, a matrix is what it was; 1 changes none.
func TestP5_3Turned(t *testing.T) {
	d := dice(12)
	for _, p := range moduli() {
		for _, sh := range shapes() {
			m, x := d.mat(p, sh.rows, sh.cols), d.list(p, sh.cols)
			u := turn(t, p, m)
			if !sameMat(turn(t, p, u), m) || !slices.Equal(times(t, p, m, x), left(t, p, x, u)) {
				t.Errorf("turned modulo %d: %v, %v", p, m, u)
			}
			before, _ := matrix.One(sh.rows)
			behind, _ := matrix.One(sh.cols)
			if sh.rows < 10 && sh.cols < 10 && (!sameMat(mul(t, p, before, m), m) || !sameMat(mul(t, p, m, behind), m)) {
				t.Errorf("1 changes %v modulo %d", m, p)
			}
		}
	}
}

// roomy is a copy with spare room behind it, filled with a mark.
func roomy[T int | uint64](l []T) []T {
	return append(slices.Clone(l), slices.Repeat([]T{77}, 300)...)[:len(l)]
}

func untouched[T int | uint64](room, l []T) bool {
	all := room[:len(l)+300]
	return slices.Equal(all[:len(l)], l) && !slices.ContainsFunc(all[len(l):], func(x T) bool { return x != 77 })
}

// scribbled is all of a list's room overwritten.
func scribbled[T int | uint64](l []T) {
	l = l[:cap(l)]
	for i := range l {
		l[i] = 99
	}
}

func roomyMat(m api.Mat) api.Mat {
	m.Cells = roomy(m.Cells)
	return m
}

func roomySparse(s api.Sparse) api.Sparse {
	s.Begin, s.Col, s.Val = roomy(s.Begin), roomy(s.Col), roomy(s.Val)
	return s
}

// What is handed in isn't changed, nor its spare room, and an answer shares nothing with it.
func TestMemory(t *testing.T) {
	d := dice(13)
	for _, p := range []uint64{2, 7, greatest} {
		for _, sh := range shapes() {
			m, other := d.thinMat(p, sh.rows, sh.cols), d.mat(p, sh.cols, sh.rows)
			s, x, y := slowThin(m), d.list(p, sh.cols), d.list(p, sh.rows)
			rm, ro, rs, rx, ry := roomyMat(m), roomyMat(other), roomySparse(s), roomy(x), roomy(y)
			fine := func(call string) {
				t.Helper()
				if !untouched(rm.Cells, m.Cells) || !untouched(ro.Cells, other.Cells) || !untouched(rx, x) || !untouched(ry, y) ||
					!untouched(rs.Begin, s.Begin) || !untouched(rs.Col, s.Col) || !untouched(rs.Val, s.Val) {
					t.Fatalf("%s changes, or shares, what it is given: %d by %d modulo %d", call, sh.rows, sh.cols, p)
				}
			}
			list := func(call string) func(l []uint64, e api.Errno) {
				return func(l []uint64, e api.Errno) {
					t.Helper()
					if e != api.OK {
						t.Fatal(call, e)
					}
					fine(call)
					scribbled(l)
					fine(call)
				}
			}
			mat := func(call string) func(m api.Mat, e api.Errno) {
				return func(m api.Mat, e api.Errno) { t.Helper(); list(call)(m.Cells, e) }
			}
			list("Times")(matrix.Times(p, rm, rx))
			list("Left")(matrix.Left(p, ry, rm))
			list("SparseTimes")(matrix.SparseTimes(p, rs, rx))
			list("SparseLeft")(matrix.SparseLeft(p, ry, rs))
			mat("Mul")(matrix.Mul(p, rm, ro))
			mat("Turn")(matrix.Turn(p, rm))
			mat("Whole")(matrix.Whole(p, rs))
			mat("Pick")(matrix.Pick(p, rm, []int{0}, []int{sh.cols - 1, 0}))
			if !matrix.Right(p, rm) || !matrix.SparseRight(p, rs) {
				t.Error("not right")
			}
			fine("Right")
			thinShares(t, p, m, rm)
			fine("Thin")
		}
	}
}

// thinShares: no two lists of one answer share memory.
func thinShares(t *testing.T, p uint64, m, given api.Mat) {
	t.Helper()
	want := slowThin(m)
	s, e := matrix.Thin(p, given)
	scribbled(s.Begin)
	if e != api.OK || !slices.Equal(s.Col, want.Col) || !slices.Equal(s.Val, want.Val) {
		t.Fatalf("Thin(%d, %v): %v, %d", p, m, s, e)
	}
	scribbled(s.Val)
	s, _ = matrix.Thin(p, given)
	scribbled(s.Col)
	if !slices.Equal(s.Begin, want.Begin) || !slices.Equal(s.Val, want.Val) {
		t.Fatalf("Thin(%d, %v): its lists share", p, m)
	}
}

// A matrix may come twice, the rows and columns that are picked be one list; what is answered stays when it is asked again, and 1 is new each time.
func TestSameTwice(t *testing.T) {
	d := dice(14)
	for _, p := range moduli() {
		m := d.mat(p, 6, 6)
		first := mul(t, p, m, m)
		if !sameMat(first, mul(t, p, m, m)) {
			t.Errorf("Mul(%d, %v) twice", p, m)
		}
		pick(t, p, m, []int{5, 0, 5}, []int{5, 0, 5})
		both := []int{3, 1}
		pick(t, p, m, both, both)
		if !slices.Equal(both, []int{3, 1}) {
			t.Error(both)
		}
	}
	one, _ := matrix.One(4)
	scribbled(one.Cells)
	if again, e := matrix.One(4); e != api.OK || again.Cells[0] != 1 || again.Cells[1] != 0 {
		t.Error(again, e)
	}
}
