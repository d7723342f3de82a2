package witness_test

import (
	"math"
	"math/bits"
	"slices"
	"testing"

	"affidavit/api"
	"affidavit/solve"
	"affidavit/witness"
)

const (
	greatest  = math.MaxInt64 // the greatest modulus: 7 * 7 * 73 * 127 * 337 * 92737 * 649657
	bigPrime  = greatest - 24 // the greatest prime below it
	beyond    = api.MostPrime // the least that is too great
	mersenne  = 1<<61 - 1     // a prime
	halfWord  = 1<<32 - 5     // the greatest prime of 32 bits
	wholeWord = math.MaxUint64
)

func primes() []uint64 { return []uint64{2, 3, 5, 7, 101, 65537, halfWord, mersenne, bigPrime} }

func others() []uint64 { return []uint64{4, 6, 9, 15, 1 << 32, greatest - 1, greatest} }

func wrongModuli() []uint64 {
	return []uint64{0, 1, beyond, beyond + 1, beyond + 25, wholeWord}
}

// dice makes numbers that look like chance and are the same each time.
type dice uint64

func (d *dice) word() uint64 {
	*d ^= *d << 13
	*d ^= *d >> 7
	*d ^= *d << 17
	return uint64(*d)
}

func (d *dice) below(n int) int { return int(d.word() % uint64(n)) }

// list of just so many numbers, noughts and the greatest now and then.
func (d *dice) list(p uint64, many int) []uint64 {
	l := make([]uint64, many)
	for i := range l {
		switch d.word() % 6 {
		case 0:
		case 1:
			l[i] = p - 1
		default:
			l[i] = d.word() % p
		}
	}
	return l
}

func (d *dice) mat(p uint64, rows, cols int) api.Mat {
	return api.Mat{Rows: rows, Cols: cols, Cells: d.list(p, rows*cols)}
}

// mat of rows that are written out.
func mat(rows ...[]uint64) api.Mat {
	return api.Mat{Rows: len(rows), Cols: len(rows[0]), Cells: slices.Concat(rows...)}
}

func noughts(rows, cols int) api.Mat {
	return api.Mat{Rows: rows, Cols: cols, Cells: make([]uint64, rows*cols)}
}

// The slow ways: by products of two words and what is left of them, number by number.

func mul(p, a, b uint64) uint64 {
	high, low := bits.Mul64(a, b)
	return bits.Rem64(high, low, p)
}

// sum of two numbers below 2^63.
func sum(p, a, b uint64) uint64 { return (a + b) % p }

func negative(p, a uint64) uint64 { return (p - a) % p }

func dot(p uint64, a, b []uint64) uint64 {
	var s uint64
	for i := range a {
		s = sum(p, s, mul(p, a[i], b[i]))
	}
	return s
}

func times(p uint64, m api.Mat, x []uint64) []uint64 {
	var y []uint64
	for row := range slices.Chunk(m.Cells, m.Cols) {
		y = append(y, dot(p, row, x))
	}
	return y
}

// turned: rows for columns.
func turned(m api.Mat) api.Mat {
	u := api.Mat{Rows: m.Cols, Cols: m.Rows}
	for j := range m.Cols {
		for i := range m.Rows {
			u.Cells = append(u.Cells, m.Cells[i*m.Cols+j])
		}
	}
	return u
}

// det of a matrix as wide as high, by its first row and the lesser determinants below it.
func det(p uint64, m api.Mat) uint64 {
	if m.Rows == 1 {
		return m.Cells[0]
	}
	var s uint64
	for j := range m.Cols {
		lesser := api.Mat{Rows: m.Rows - 1, Cols: m.Cols - 1}
		for row := range slices.Chunk(m.Cells[m.Cols:], m.Cols) {
			lesser.Cells = append(lesser.Cells, slices.Concat(row[:j], row[j+1:])...)
		}
		part := mul(p, m.Cells[j], det(p, lesser))
		if j%2 == 1 {
			part = negative(p, part)
		}
		s = sum(p, s, part)
	}
	return s
}

func all0(l []uint64) bool {
	for _, x := range l {
		if x != 0 {
			return false
		}
	}
	return true
}

// allLists of so many numbers below most.
func allLists(most uint64, many int) [][]uint64 {
	lists := [][]uint64{nil}
	for range many {
		var longer [][]uint64
		for _, l := range lists {
			for x := range most {
				longer = append(longer, append(slices.Clone(l), x))
			}
		}
		lists = longer
	}
	return lists
}

func allMats(p uint64, rows, cols int) []api.Mat {
	var l []api.Mat
	for _, cells := range allLists(p, rows*cols) {
		l = append(l, api.Mat{Rows: rows, Cols: cols, Cells: cells})
	}
	return l
}

func shapes() [][2]int {
	return [][2]int{{1, 1}, {1, 2}, {2, 1}, {2, 2}, {3, 2}, {2, 3}, {4, 4}, {5, 9}, {9, 5}, {12, 12}, {1, 64}, {64, 1}, {64, 64}, {63, 64}, {64, 63}}
}

// lost is a matrix that takes the vector to 0: each row's number at a place where the vector is 1 is made so.
func (d *dice) lost(p uint64, rows int, x []uint64) api.Mat {
	m, place := d.mat(p, rows, len(x)), slices.Index(x, 1)
	for row := range slices.Chunk(m.Cells, m.Cols) {
		row[place] = 0
		row[place] = negative(p, dot(p, row, x))
	}
	return m
}

// with1: a vector of so many, with a 1 somewhere.
func (d *dice) with1(p uint64, many int) []uint64 {
	x := d.list(p, many)
	x[d.below(many)] = 1
	return x
}

// overMats goes over matrices of all shapes, of primes and of others, with one vector each that they may be asked about from the right, and one from the left: those that take these to 0, and others.
func overMats(f func(p uint64, m api.Mat, x, y []uint64, d *dice)) {
	d := dice(14)
	for _, p := range append(primes(), others()...) {
		for _, s := range shapes() {
			x, y := d.with1(p, s[1]), d.with1(p, s[0])
			f(p, d.lost(p, s[0], x), x, y, &d)
			f(p, turned(d.lost(p, s[1], y)), x, y, &d)
			f(p, d.mat(p, s[0], s[1]), x, y, &d)
			f(p, noughts(s[0], s[1]), x, y, &d)
		}
	}
}

// The calls, held against the chapter's words. Each tells what the call does.

func singularHolds(t *testing.T, p uint64, m api.Mat, x []uint64) bool {
	t.Helper()
	want := m.Rows == m.Cols && !all0(x) && all0(times(p, m, x))
	if is := witness.Singular(p, m, x); is != want {
		t.Fatalf("Singular(%d, %v, %v): %v", p, m, x, is)
	}
	return want
}

func solvesHolds(t *testing.T, p uint64, m api.Mat, b, x []uint64) bool {
	t.Helper()
	want := slices.Equal(times(p, m, x), b)
	if is := witness.Solves(p, m, b, x); is != want {
		t.Fatalf("Solves(%d, %v, %v, %v): %v", p, m, b, x, is)
	}
	if is := witness.Meets(p, m, b, x); is != (want && m.Rows == m.Cols) {
		t.Fatalf("Meets(%d, %v, %v, %v): %v", p, m, b, x, is)
	}
	return want
}

func losesHolds(t *testing.T, p uint64, m api.Mat, y []uint64) bool {
	t.Helper()
	want := !all0(y) && all0(times(p, turned(m), y))
	if is := witness.Loses(p, m, y); is != want {
		t.Fatalf("Loses(%d, %v, %v): %v", p, m, y, is)
	}
	return want
}

func againstHolds(t *testing.T, p uint64, m api.Mat, b, y []uint64) bool {
	t.Helper()
	want := all0(times(p, turned(m), y)) && dot(p, y, b) != 0
	if is := witness.Against(p, m, b, y); is != want {
		t.Fatalf("Against(%d, %v, %v, %v): %v", p, m, b, y, is)
	}
	return want
}

func TestP14_1Zero(t *testing.T) {
	for many := range 130 {
		x := make([]uint64, many)
		if !witness.Zero(x) {
			t.Errorf("%d noughts", many)
		}
		for i := range x {
			for _, number := range []uint64{1, 2, 1 << 32, beyond - 1, beyond, wholeWord} {
				x[i] = number
				if witness.Zero(x) {
					t.Errorf("of %d, %d at %d", many, number, i)
				}
			}
			x[i] = 0
		}
	}
	if !witness.Zero(nil) {
		t.Error("of none, all are 0")
	}
	// Numbers aren't added up.
	if witness.Zero([]uint64{1, wholeWord}) || witness.Zero([]uint64{beyond, beyond}) || witness.Zero([]uint64{1 << 32}) {
		t.Error("numbers that make 0 together aren't 0")
	}
}

func TestP14_1Known(t *testing.T) {
	m, wide := mat([]uint64{1, 2}, []uint64{2, 4}), mat([]uint64{1, 2, 3}, []uint64{2, 4, 6})
	for i, c := range []struct{ is, want bool }{
		{witness.Singular(7, m, []uint64{5, 1}), true}, // the chapter's example
		{witness.Singular(7, m, []uint64{3, 2}), true},
		{witness.Singular(7, m, []uint64{1, 5}), false}, // it takes m to 0 neither way
		{witness.Singular(5, m, []uint64{5, 1}), false}, // 5 is no number of 5
		{witness.Singular(5, m, []uint64{3, 1}), true},
		{witness.Singular(7, wide, []uint64{5, 1, 0}), false}, // wide isn't as wide as high
		{witness.Singular(7, turned(wide), []uint64{5, 1}), false},
		{witness.Meets(7, m, []uint64{3, 6}, []uint64{1, 1}), true},
		{witness.Meets(7, m, []uint64{3, 6}, []uint64{0, 5}), true},
		{witness.Meets(7, m, []uint64{3, 6}, []uint64{1, 2}), false},
		{witness.Meets(7, m, []uint64{0, 0}, []uint64{0, 0}), true}, // a w may be Zero
		{witness.Meets(7, wide, []uint64{6, 5}, []uint64{1, 1, 1}), false},
		{witness.Solves(7, wide, []uint64{6, 5}, []uint64{1, 1, 1}), true},
		{witness.Solves(7, wide, []uint64{6, 12}, []uint64{1, 1, 1}), false}, // 12 is no number of 7
		{witness.Solves(7, turned(wide), []uint64{1, 2, 3}, []uint64{1, 0}), true},
		{witness.Solves(7, turned(wide), []uint64{1, 2, 3}, []uint64{0, 4}), true},
		{witness.Solves(7, turned(wide), []uint64{1, 2, 4}, []uint64{1, 0}), false},
		{witness.Loses(7, wide, []uint64{5, 1}), true},
		{witness.Loses(7, wide, []uint64{5, 2}), false},
		{witness.Loses(7, wide, []uint64{0, 0}), false},
		{witness.Loses(7, mat([]uint64{1, 2}, []uint64{3, 6}), []uint64{4, 1}), true}, // from the left, not from the right
		{witness.Loses(7, mat([]uint64{1, 2}, []uint64{3, 6}), []uint64{5, 1}), false},
		{witness.Against(7, wide, []uint64{1, 3}, []uint64{5, 1}), true},
		{witness.Against(7, wide, []uint64{1, 2}, []uint64{5, 1}), false}, // 1, 0, 0 solves it
		{witness.Against(7, wide, []uint64{1, 3}, []uint64{1, 1}), false}, // it doesn't take wide to 0
		{witness.Against(7, wide, []uint64{1, 3}, []uint64{0, 0}), false},
		{witness.Against(7, mat([]uint64{1, 2}, []uint64{3, 6}), []uint64{1, 1}, []uint64{4, 1}), true},
		{witness.Against(7, mat([]uint64{1, 2}, []uint64{3, 6}), []uint64{1, 1}, []uint64{5, 1}), false},
	} {
		if c.is != c.want {
			t.Errorf("case %d: %v", i, c.is)
		}
	}
}

func TestP14_1SingularLoses(t *testing.T) {
	singular, loses := 0, 0
	overMats(func(p uint64, m api.Mat, x, y []uint64, d *dice) {
		for _, l := range [][]uint64{x, make([]uint64, m.Cols), d.list(p, m.Cols)} {
			if singularHolds(t, p, m, l) {
				singular++
			}
		}
		for _, l := range [][]uint64{y, make([]uint64, m.Rows), d.list(p, m.Rows)} {
			if losesHolds(t, p, m, l) {
				loses++
			}
		}
	})
	if singular < 100 || loses < 300 {
		t.Errorf("too few of them hold to tell: %d, %d", singular, loses)
	}
}

func TestP14_1SolvesMeets(t *testing.T) {
	overMats(func(p uint64, m api.Mat, x, _ []uint64, d *dice) {
		b := times(p, m, x)
		if !solvesHolds(t, p, m, b, x) {
			t.Fatal("the slow way doesn't hold")
		}
		solvesHolds(t, p, m, d.list(p, m.Rows), x)
		solvesHolds(t, p, m, b, d.list(p, m.Cols))
		solvesHolds(t, p, m, make([]uint64, m.Rows), make([]uint64, m.Cols))
		for i, was := range b {
			if len(b) > 12 && d.below(8) > 0 {
				continue // some of the greatest will do
			}
			for _, number := range []uint64{0, sum(p, was, 1), was + p, was - p, was ^ 1, wholeWord} {
				b[i] = number
				solvesHolds(t, p, m, b, x)
			}
			b[i] = was
		}
	})
}

func TestP14_1Against(t *testing.T) {
	hold := 0
	overMats(func(p uint64, m api.Mat, x, y []uint64, d *dice) {
		for _, b := range [][]uint64{times(p, m, x), make([]uint64, m.Rows), d.list(p, m.Rows), d.list(p, m.Rows)} {
			for _, l := range [][]uint64{y, make([]uint64, m.Rows), d.list(p, m.Rows)} {
				if againstHolds(t, p, m, b, l) {
					hold++
				}
			}
		}
	})
	if hold < 300 {
		t.Errorf("too few of them hold to tell: %d", hold)
	}
}

// Of a matrix that takes vectors to 0, each number is changed, one by one, by which it does no more; and each of the vectors'.
func TestP14_1EachCell(t *testing.T) {
	d := dice(3)
	for _, p := range []uint64{2, 3, 6, 7, greatest, bigPrime} {
		for _, n := range []int{1, 2, 5, 8} {
			x := make([]uint64, n)
			for i := range x {
				x[i] = 1 + d.word()%(p-1)
			}
			x[d.below(n)] = 1
			right := d.lost(p, n, x)
			left, b := turned(right), d.with1(p, n)
			for i, was := range right.Cells {
				right.Cells[i] = sum(p, was, 1)
				left.Cells[i] = sum(p, left.Cells[i], 1)
				if singularHolds(t, p, right, x) || losesHolds(t, p, left, x) || againstHolds(t, p, left, b, x) {
					t.Fatalf("modulo %d, %v, at %d: 1 times what isn't 0 isn't 0", p, x, i)
				}
				right.Cells[i] = was
				left.Cells[i] = negative(p, sum(p, negative(p, left.Cells[i]), 1))
			}
			if !singularHolds(t, p, right, x) || !losesHolds(t, p, left, x) {
				t.Fatal("they aren't as they were")
			}
			for i := range x {
				for _, number := range []uint64{0, p - 1} {
					changed := slices.Clone(x)
					changed[i] = number
					singularHolds(t, p, right, changed)
					losesHolds(t, p, left, changed)
					againstHolds(t, p, left, b, changed)
				}
			}
		}
	}
}

// Sums of great numbers' products wrap round, if they aren't taken modulo p on the way.
func TestP14_1Greatest(t *testing.T) {
	for _, p := range []uint64{bigPrime, greatest, greatest - 1} {
		full := api.Mat{Rows: 64, Cols: 64, Cells: slices.Repeat([]uint64{p - 1}, 64*64)}
		x, b := slices.Repeat([]uint64{p - 1}, 64), slices.Repeat([]uint64{64}, 64)
		if !witness.Meets(p, full, b, x) || !witness.Solves(p, full, b, x) || witness.Singular(p, full, x) || witness.Loses(p, full, x) {
			t.Errorf("modulo %d, of -1 alone", p)
		}
		for i := range 32 {
			x[2*i] = 1
		}
		if witness.Meets(p, full, b, x) || !witness.Singular(p, full, x) || !witness.Loses(p, full, x) || witness.Against(p, full, b, x) || !witness.Against(p, full, append(b[:63:63], 63), x) {
			t.Errorf("modulo %d, of -1 and 1, as often", p)
		}
	}
}

// No modulus is told to Cost: so a matrix is right to it, if it is modulo some p.
func TestP14_1Cost(t *testing.T) {
	sides := []int{math.MinInt, -64, -1, 0, 1, 2, 3, 10, 63, 64, 65, 1 << 31, 1 << 32, 1 << 62, math.MaxInt}
	right := func(n int) bool { return n >= 1 && n <= 64 }
	for _, rows := range sides {
		for _, cols := range sides {
			for _, many := range []int{0, 1, rows * cols, rows*cols - 1, rows*cols + 1} {
				if many < 0 || many > 10000 {
					continue
				}
				want := 0
				if right(rows) && right(cols) && many == rows*cols {
					want = many
				}
				if n := witness.Cost(api.Mat{Rows: rows, Cols: cols, Cells: make([]uint64, many)}); n != want {
					t.Fatalf("Cost of %d by %d, of %d numbers: %d, not %d", rows, cols, many, n, want)
				}
			}
		}
	}
	for number, want := range map[uint64]int{0: 6, 1: 6, greatest - 1: 6, greatest: 0, beyond: 0, wholeWord: 0} {
		for i := range 6 {
			m := noughts(2, 3)
			m.Cells[i] = number
			if n := witness.Cost(m); n != want {
				t.Errorf("Cost, with %d at %d: %d", number, i, n)
			}
		}
	}
	if n := witness.Cost(api.Mat{}); n != 0 {
		t.Error("Cost of none:", n)
	}
}

// squares and littleShapes: a modulus, rows and columns, of which all matrices are gone through, with all vectors.
func squares() [][2]int {
	return [][2]int{{2, 1}, {2, 2}, {2, 3}, {3, 1}, {3, 2}, {5, 1}, {5, 2}, {7, 1}, {101, 1}}
}

func littleShapes() [][3]int {
	return [][3]int{{2, 1, 1}, {2, 1, 3}, {2, 3, 1}, {2, 2, 2}, {2, 3, 2}, {2, 2, 3}, {2, 3, 3}, {3, 1, 2}, {3, 2, 1}, {3, 2, 2}, {5, 1, 2}, {5, 2, 1}, {7, 1, 1}}
}

// There is an x that Singular tells of just if the determinant is 0.
func TestP14_2Singular(t *testing.T) {
	for _, s := range squares() {
		p := uint64(s[0])
		all := allLists(p, s[1])
		for _, m := range allMats(p, s[1], s[1]) {
			shown := 0
			for _, x := range all {
				if singularHolds(t, p, m, x) {
					shown++
				}
			}
			if shown > 0 != (det(p, m) == 0) {
				t.Fatalf("modulo %d, %v: %d vectors, the determinant %d", p, m, shown, det(p, m))
			}
		}
	}
}

// There is a y that Against tells of just if nothing Solves.
func TestP14_2Against(t *testing.T) {
	for _, s := range littleShapes() {
		p := uint64(s[0])
		bs, xs := allLists(p, s[1]), allLists(p, s[2])
		for _, m := range allMats(p, s[1], s[2]) {
			for _, b := range bs {
				solves, against := 0, 0
				for _, x := range xs {
					if solvesHolds(t, p, m, b, x) {
						solves++
					}
				}
				for _, y := range bs {
					if againstHolds(t, p, m, b, y) {
						against++
					}
				}
				if solves > 0 == (against > 0) {
					t.Fatalf("modulo %d, %v, %v: %d solve, %d are against", p, m, b, solves, against)
				}
			}
		}
	}
}

// Of a matrix whose determinant is 0, at most one part in p of all b is met; of another one, each b by just one w.
func TestP14_2Meets(t *testing.T) {
	for _, s := range squares() {
		p := uint64(s[0])
		all := allLists(p, s[1])
		most := 0
		for _, m := range allMats(p, s[1], s[1]) {
			met := 0
			for _, b := range all {
				ws := 0
				for _, w := range all {
					if witness.Meets(p, m, b, w) {
						ws++
					}
				}
				if det(p, m) != 0 && ws != 1 {
					t.Fatalf("modulo %d, %v, %v: %d meet it", p, m, b, ws)
				}
				if ws > 0 {
					met++
				}
			}
			if det(p, m) == 0 {
				most = max(most, met)
			}
		}
		if most*s[0] != len(all) {
			t.Errorf("modulo %d, of %d: %d of %d are met, at most, where the determinant is 0", p, s[1], most, len(all))
		}
	}
}

// Modulo what isn't prime, a determinant that isn't 0 may have a vector that shows it all the same.
func TestP14_2Others(t *testing.T) {
	if !witness.Singular(6, mat([]uint64{2}), []uint64{3}) || witness.Singular(6, mat([]uint64{5}), []uint64{3}) {
		t.Error("2 times 3 is 0 modulo 6")
	}
	for _, p := range []uint64{4, 6} {
		all := allLists(p, 2)
		for _, m := range allMats(p, 2, 2) {
			for _, x := range all {
				singularHolds(t, p, m, x)
				losesHolds(t, p, m, x)
				b := all[(m.Cells[0]+3*m.Cells[1]+5*m.Cells[2]+7*x[0])%uint64(len(all))]
				solvesHolds(t, p, m, b, x)
				againstHolds(t, p, m, b, x)
			}
		}
	}
}

// What layer 8 finds is what these tell of, of matrices of all shapes; and where it finds nothing, there is nothing.
func TestP14_2Found(t *testing.T) {
	d := dice(8)
	for _, p := range primes() {
		for _, s := range shapes() {
			for _, m := range []api.Mat{d.mat(p, s[0], s[1]), d.lost(p, s[0], d.with1(p, s[1])), turned(d.lost(p, s[1], d.with1(p, s[0]))), noughts(s[0], s[1])} {
				foundHolds(t, p, m, times(p, m, d.list(p, s[1])))
				foundHolds(t, p, m, d.list(p, s[0]))
				kernel, e := solve.Kernel(p, m)
				if witness.Singular(p, m, kernel) != (e == api.OK && s[0] == s[1]) {
					t.Fatalf("Singular(%d, %v, %v), %d", p, m, kernel, e)
				}
				left, e := solve.Left(p, m)
				if witness.Loses(p, m, left) != (e == api.OK) {
					t.Fatalf("Loses(%d, %v, %v), %d", p, m, left, e)
				}
			}
		}
	}
}

func foundHolds(t *testing.T, p uint64, m api.Mat, b []uint64) {
	t.Helper()
	x, _ := solve.Solve(p, m, b)
	y, _ := solve.Against(p, m, b)
	if witness.Solves(p, m, b, x) == witness.Against(p, m, b, y) {
		t.Fatalf("modulo %d, of %v and %v: %v and %v", p, m, b, x, y)
	}
}

// refused asks everything for which there is false, whatever the vectors.
func refused(t *testing.T, p uint64, m api.Mat, b, x, y []uint64) {
	t.Helper()
	if witness.Singular(p, m, x) {
		t.Fatalf("Singular(%d, %v, %v)", p, m, x)
	}
	if witness.Meets(p, m, b, x) {
		t.Fatalf("Meets(%d, %v, %v, %v)", p, m, b, x)
	}
	if witness.Solves(p, m, b, x) {
		t.Fatalf("Solves(%d, %v, %v, %v)", p, m, b, x)
	}
	if witness.Against(p, m, b, y) {
		t.Fatalf("Against(%d, %v, %v, %v)", p, m, b, y)
	}
	if witness.Loses(p, m, y) {
		t.Fatalf("Loses(%d, %v, %v)", p, m, y)
	}
}

// units: vectors of so many, if there may be such, each with a 1.
func units(many int) [][]uint64 {
	many = max(0, min(many, 100))
	l := [][]uint64{nil, make([]uint64, many)}
	if many > 0 {
		l = append(l, append([]uint64{1}, make([]uint64, many-1)...), slices.Repeat([]uint64{1}, many))
	}
	return l
}

// wrongMats of the modulus 7, most of which would take each vector to 0.
func wrongMats() []api.Mat {
	l := []api.Mat{
		{}, {Rows: 1, Cols: 1}, {Rows: 1, Cols: 1, Cells: []uint64{0, 0}}, {Rows: 1, Cols: 1, Cells: []uint64{7}}, {Rows: 1, Cols: 1, Cells: []uint64{wholeWord}},
		{Rows: -1, Cols: -1, Cells: []uint64{0}}, {Rows: 65, Cols: 1, Cells: make([]uint64, 65)}, {Rows: 1, Cols: 65, Cells: make([]uint64, 65)},
		{Rows: 65, Cols: 65, Cells: make([]uint64, 65*65)}, {Rows: 2, Cols: 2, Cells: make([]uint64, 3)}, {Rows: 2, Cols: 2, Cells: make([]uint64, 5)},
		{Rows: 2, Cols: 2, Cells: []uint64{7, 0, 0, 0}}, {Rows: 2, Cols: 2, Cells: []uint64{0, 0, 0, 7}}, {Rows: 2, Cols: 2, Cells: []uint64{0, 14, 0, 0}},
	}
	for _, n := range []int{0, -1, 65, math.MinInt, math.MaxInt, 1 << 32, 1 << 62} {
		l = append(l, api.Mat{Rows: n, Cols: n}, api.Mat{Rows: n, Cols: 1, Cells: []uint64{0}}, api.Mat{Rows: 1, Cols: n, Cells: []uint64{0}})
	}
	return l
}

func TestWrongMat(t *testing.T) {
	for _, m := range wrongMats() {
		for _, b := range units(m.Rows) {
			for _, x := range units(m.Cols) {
				for _, y := range units(m.Rows) {
					refused(t, 7, m, b, x, y)
				}
			}
		}
	}
}

func TestWrongModulus(t *testing.T) {
	for _, p := range wrongModuli() {
		refused(t, p, noughts(2, 2), []uint64{0, 0}, []uint64{1, 0}, []uint64{1, 0})
		refused(t, p, noughts(2, 2), []uint64{1, 0}, []uint64{1, 0}, []uint64{1, 0})
		refused(t, p, noughts(1, 1), []uint64{0}, []uint64{0}, []uint64{0})
	}
}

// Of matrices of noughts, that take all to 0, the vector alone is wrong; or what it is to be made to.
func TestWrongVector(t *testing.T) {
	for _, s := range [][2]int{{1, 1}, {2, 2}, {2, 3}, {3, 2}, {64, 64}} {
		m := noughts(s[0], s[1])
		b, x, y := units(s[0]), units(s[1])[2], units(s[0])[2]
		if !witness.Solves(7, m, b[1], x) || !witness.Against(7, m, b[2], y) || !witness.Loses(7, m, y) || witness.Singular(7, m, x) != (s[0] == s[1]) {
			t.Fatal("what is to be made wrong isn't right")
		}
		for _, x := range wrongVectors(s[1]) {
			refused(t, 7, m, b[1], x, make([]uint64, s[0]))
		}
		for _, y := range wrongVectors(s[0]) {
			refused(t, 7, m, b[2], make([]uint64, s[1]), y)
			if witness.Solves(7, m, y, x) || witness.Meets(7, m, y, x) || witness.Against(7, m, y, units(s[0])[2]) {
				t.Errorf("%d by %d, as right side: %v", s[0], s[1], y)
			}
			if witness.Against(7, m, y, y) {
				t.Errorf("%d by %d, as right side and against it: %v", s[0], s[1], y)
			}
		}
	}
}

// wrongVectors where so many numbers of 7 are needed.
func wrongVectors(many int) [][]uint64 {
	l := [][]uint64{nil, {}, make([]uint64, many-1), make([]uint64, many+1), units(many + 1)[2], units(many + 1)[3], append(make([]uint64, many), 1)}
	if many > 1 {
		l = append(l, units(many - 1)[2])
	}
	for _, number := range []uint64{7, 8, 14, 1 << 32, beyond, wholeWord} {
		for _, place := range []int{0, many - 1} {
			x := units(many)[2]
			x[place] = number
			l = append(l, x)
		}
	}
	return l
}

// roomy is a copy with spare room behind it, filled with a mark.
func roomy(l []uint64) []uint64 {
	return append(slices.Clone(l), slices.Repeat([]uint64{wholeWord}, 80)...)[:len(l)]
}

func untouched(room, l []uint64) bool {
	all := room[:len(l)+80]
	return slices.Equal(all[:len(l)], l) && !slices.ContainsFunc(all[len(l):], func(x uint64) bool { return x != wholeWord })
}

// What is handed in isn't changed, nor its spare room; and it is told the same again.
func TestMemory(t *testing.T) {
	overMats(func(p uint64, m api.Mat, x, y []uint64, d *dice) {
		b := d.list(p, m.Rows)
		given := [][]uint64{roomy(m.Cells), roomy(b), roomy(x), roomy(y)}
		room := api.Mat{Rows: m.Rows, Cols: m.Cols, Cells: given[0]}
		for range 2 {
			told := []bool{
				witness.Zero(given[2]), witness.Singular(p, room, given[2]), witness.Meets(p, room, given[1], given[2]),
				witness.Solves(p, room, given[1], given[2]), witness.Against(p, room, given[1], given[3]), witness.Loses(p, room, given[3]),
				witness.Cost(room) == m.Rows*m.Cols,
			}
			want := []bool{
				all0(x), singularHolds(t, p, m, x), m.Rows == m.Cols && solvesHolds(t, p, m, b, x),
				solvesHolds(t, p, m, b, x), againstHolds(t, p, m, b, y), losesHolds(t, p, m, y),
				true,
			}
			if !slices.Equal(told, want) {
				t.Fatalf("modulo %d, of %v, %v, %v, %v: %v, not %v", p, m, b, x, y, told, want)
			}
			for i, l := range [][]uint64{m.Cells, b, x, y} {
				if !untouched(given[i], l) {
					t.Fatalf("modulo %d: what is handed in is changed: %v", p, l)
				}
			}
		}
	})
}

// One list may stand in more than one place.
func TestOneForAll(t *testing.T) {
	x := []uint64{1, 0}
	if !witness.Meets(7, mat([]uint64{1, 3}, []uint64{0, 5}), x, x) || !witness.Against(7, noughts(2, 2), x, x) {
		t.Error("what is made of it is it; and it, times itself, isn't 0")
	}
	cells := []uint64{1}
	if m := (api.Mat{Rows: 1, Cols: 1, Cells: cells}); !witness.Solves(7, m, cells, cells) || witness.Loses(7, m, cells) {
		t.Error("1 times 1 is 1")
	}
}
