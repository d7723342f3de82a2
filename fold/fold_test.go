package fold_test

import (
	"math"
	"math/big"
	"math/bits"
	"slices"
	"testing"

	"affidavit/api"
	"affidavit/fold"
)

const (
	greatest  = math.MaxInt64 // the greatest modulus: 7 * 7 * 73 * 127 * 337 * 92737 * 649657
	bigPrime  = greatest - 24 // the greatest prime below it
	beyond    = api.MostPrime // the least that is too great
	mersenne  = 1<<61 - 1     // a prime
	halfWord  = 1<<32 - 5     // the greatest prime of 32 bits
	wholeWord = math.MaxUint64
)

func primes() []uint64 { return []uint64{2, 3, 5, 7, 101, 65537, halfWord, mersenne, bigPrime} }

func others() []uint64 { return []uint64{4, 6, 9, 15, 1 << 32, greatest - 1, greatest} }

func wrongModuli() []uint64 {
	return []uint64{0, 1, beyond, beyond + 1, beyond + 25, wholeWord}
}

// dice makes numbers that look like chance and are the same each time.
type dice uint64

func (d *dice) word() uint64 {
	*d ^= *d << 13
	*d ^= *d >> 7
	*d ^= *d << 17
	return uint64(*d)
}

// list of just so many numbers, noughts and the greatest now and then.
func (d *dice) list(p uint64, many int) []uint64 {
	l := make([]uint64, many)
	for i := range l {
		switch d.word() % 6 {
		case 0:
		case 1:
			l[i] = p - 1
		default:
			l[i] = d.word() % p
		}
	}
	return l
}

func (d *dice) mat(p uint64, rows, cols int) api.Mat {
	return api.Mat{Rows: rows, Cols: cols, Cells: d.list(p, rows*cols)}
}

// mat of rows that are written out.
func mat(rows ...[]uint64) api.Mat {
	return api.Mat{Rows: len(rows), Cols: len(rows[0]), Cells: slices.Concat(rows...)}
}

func noughts(rows, cols int) api.Mat {
	return api.Mat{Rows: rows, Cols: cols, Cells: make([]uint64, rows*cols)}
}

// The slow ways: by products of two words and what is left of them, number by number.

func mul(p, a, b uint64) uint64 {
	high, low := bits.Mul64(a, b)
	return bits.Rem64(high, low, p)
}

// sum of two numbers below 2^63.
func sum(p, a, b uint64) uint64 { return (a + b) % p }

func less(p, a, b uint64) uint64 { return (a + (p - b)) % p }

func dot(p uint64, a, b []uint64) uint64 {
	var s uint64
	for i := range a {
		s = sum(p, s, mul(p, a[i], b[i]))
	}
	return s
}

// turned: rows for columns.
func turned(m api.Mat) api.Mat {
	u := api.Mat{Rows: m.Cols, Cols: m.Rows}
	for j := range m.Cols {
		for i := range m.Rows {
			u.Cells = append(u.Cells, m.Cells[i*m.Cols+j])
		}
	}
	return u
}

func times(p uint64, m api.Mat, x []uint64) []uint64 {
	var y []uint64
	for row := range slices.Chunk(m.Cells, m.Cols) {
		y = append(y, dot(p, row, x))
	}
	return y
}

func product(p uint64, a, b api.Mat) api.Mat {
	u := api.Mat{Rows: b.Cols, Cols: a.Rows}
	for column := range slices.Chunk(turned(b).Cells, b.Rows) {
		u.Cells = append(u.Cells, times(p, a, column)...)
	}
	return turned(u)
}

// difference of two matrices of one shape.
func difference(p uint64, a, b api.Mat) api.Mat {
	d := noughts(a.Rows, a.Cols)
	for i := range d.Cells {
		d.Cells[i] = less(p, a.Cells[i], b.Cells[i])
	}
	return d
}

func all0(l []uint64) bool { return !slices.ContainsFunc(l, func(x uint64) bool { return x != 0 }) }

// allLists of so many numbers below most.
func allLists(most uint64, many int) [][]uint64 {
	lists := [][]uint64{nil}
	for range many {
		var longer [][]uint64
		for _, l := range lists {
			for x := range most {
				longer = append(longer, append(slices.Clone(l), x))
			}
		}
		lists = longer
	}
	return lists
}

func allMats(p uint64, rows, cols int) []api.Mat {
	var l []api.Mat
	for _, cells := range allLists(p, rows*cols) {
		l = append(l, api.Mat{Rows: rows, Cols: cols, Cells: cells})
	}
	return l
}

// claim of a product, and what is wrong of it.
type claim struct{ a, b, c, wrong api.Mat }

// claimOf: one of which just that is wrong.
func claimOf(p uint64, a, b, wrong api.Mat) claim {
	return claim{a, b, difference(p, product(p, a, b), wrong), wrong}
}

// shapes: A's rows, A's columns, which are B's rows, and B's columns.
func shapes() [][3]int {
	return [][3]int{
		{1, 1, 1}, {1, 1, 2}, {1, 2, 1}, {2, 1, 1}, {2, 2, 2}, {1, 2, 3}, {3, 2, 1}, {2, 3, 1}, {4, 5, 6}, {7, 3, 5}, {12, 12, 12},
		{64, 1, 1}, {1, 64, 1}, {1, 1, 64}, {1, 64, 64}, {64, 1, 64}, {64, 64, 1}, {64, 63, 62}, {64, 64, 64},
	}
}

// claims of a modulus: right ones, such of which one number is wrong, one column, one row, a few numbers, and all of them.
func (d *dice) claims(p uint64) []claim {
	var l []claim
	for _, s := range shapes() {
		a, b := d.mat(p, s[0], s[1]), d.mat(p, s[1], s[2])
		whole := product(p, a, b)
		right, cell, column, row, few := noughts(s[0], s[2]), noughts(s[0], s[2]), noughts(s[0], s[2]), noughts(s[0], s[2]), noughts(s[0], s[2])
		i, j := int(d.word()%uint64(s[0])), int(d.word()%uint64(s[2]))
		cell.Cells[i*s[2]+j] = 1 + d.word()%(p-1)
		for k := range s[0] {
			column.Cells[k*s[2]+j] = d.word() % p
		}
		copy(row.Cells[i*s[2]:], d.list(p, s[2]))
		for range 3 {
			few.Cells[d.word()%uint64(len(few.Cells))] = d.word() % p
		}
		for _, wrong := range []api.Mat{right, cell, column, row, few, d.mat(p, s[0], s[2])} {
			l = append(l, claim{a, b, difference(p, whole, wrong), wrong})
		}
	}
	return l
}

// overClaims goes over claims of primes and of others.
func overClaims(t *testing.T, f func(p uint64, c claim, d *dice)) {
	t.Helper()
	d := dice(12)
	for _, p := range append(primes(), others()...) {
		for _, c := range d.claims(p) {
			f(p, c, &d)
		}
	}
}

// vectors to look with: 0, one of ones, the units, and such as come by chance.
func (d *dice) vectors(p uint64, many int) [][]uint64 {
	l := [][]uint64{make([]uint64, many), slices.Repeat([]uint64{1}, many)}
	for _, i := range []int{0, many / 2, many - 1, int(d.word() % uint64(many))} {
		unit := make([]uint64, many)
		unit[i] = 1
		l = append(l, unit)
	}
	return append(l, d.list(p, many), d.list(p, many))
}

func looksHolds(t *testing.T, p uint64, c claim, x []uint64) bool {
	t.Helper()
	passes, e := fold.Looks(p, c.a, c.b, c.c, x)
	far := slices.Equal(times(p, c.a, times(p, c.b, x)), times(p, c.c, x))
	silent := all0(times(p, c.wrong, x))
	if e != api.OK || passes != far || passes != silent {
		t.Fatalf("Looks(%d, %v, %v, %v, %v): %v, %d, not %v", p, c.a, c.b, c.c, x, passes, e, far)
	}
	if tells := fold.Tells(p, c.a, c.b, c.c, x); tells == silent {
		t.Fatalf("Tells(%d, %v, %v, %v, %v): %v", p, c.a, c.b, c.c, x, tells)
	}
	return passes
}

func leftHolds(t *testing.T, p uint64, c claim, y []uint64) {
	t.Helper()
	passes, e := fold.Left(p, y, c.a, c.b, c.c)
	far := slices.Equal(times(p, turned(c.b), times(p, turned(c.a), y)), times(p, turned(c.c), y))
	if e != api.OK || passes != far || passes != all0(times(p, turned(c.wrong), y)) {
		t.Fatalf("Left(%d, %v, %v, %v, %v): %v, %d, not %v", p, y, c.a, c.b, c.c, passes, e, far)
	}
}

func TestP12_1Known(t *testing.T) {
	one := mat([]uint64{1})
	for x, want := range []bool{true, false} {
		if passes, e := fold.Looks(2, one, one, mat([]uint64{0}), []uint64{uint64(x)}); e != api.OK || passes != want {
			t.Errorf("of 1 times 1 is 0, modulo 2, %d passes: %v, %d", x, passes, e)
		}
	}
	a, b, c := mat([]uint64{1, 2}, []uint64{3, 4}), mat([]uint64{5}, []uint64{6}), mat([]uint64{3}, []uint64{4})
	if passes, e := fold.Looks(7, a, b, c, []uint64{3}); e != api.OK || !passes {
		t.Error(passes, e)
	}
	if passes, e := fold.Left(7, []uint64{1, 6}, a, b, mat([]uint64{4}, []uint64{5})); e != api.OK || !passes {
		t.Error("1 too much in both rows, which 1, -1 from the left doesn't tell:", passes, e)
	}
	if passes, e := fold.Left(7, []uint64{1, 6}, a, b, mat([]uint64{4}, []uint64{4})); e != api.OK || passes {
		t.Error("1 too much in one row:", passes, e)
	}
	if w, e := fold.Wrong(7, a, b, mat([]uint64{4}, []uint64{2})); e != api.OK || w.Rows != 2 || w.Cols != 1 || !slices.Equal(w.Cells, []uint64{6, 2}) {
		t.Error(w, e)
	}
	if n, e := fold.Silent(2, one, one, mat([]uint64{0})); e != api.OK || n != 1 {
		t.Error(n, e)
	}
}

func TestP12_1LooksLeft(t *testing.T) {
	overClaims(t, func(p uint64, c claim, d *dice) {
		for _, x := range d.vectors(p, c.b.Cols) {
			looksHolds(t, p, c, x)
		}
		for _, y := range d.vectors(p, c.a.Rows) {
			leftHolds(t, p, c, y)
		}
	})
}

// One number that is wrong is told just by those vectors that meet it with a number whose product with it isn't 0.
func TestP12_1EachCell(t *testing.T) {
	d := dice(3)
	for _, p := range []uint64{2, 6, 7, bigPrime} {
		a, b := d.mat(p, 3, 4), d.mat(p, 4, 5)
		for cell := range 15 {
			wrong := noughts(3, 5)
			wrong.Cells[cell] = p - 1
			c := claimOf(p, a, b, wrong)
			for place := range 5 {
				unit := make([]uint64, 5)
				unit[place] = p / 2
				if passes := looksHolds(t, p, c, unit); passes == (cell%5 == place) {
					t.Fatalf("modulo %d, wrong at %d, seen at %d: %v", p, cell, place, passes)
				}
			}
			for place := range 3 {
				unit := make([]uint64, 3)
				unit[place] = 1
				leftHolds(t, p, c, unit)
			}
		}
	}
}

// Sums of great numbers' products wrap round, if they aren't taken modulo p on the way.
func TestP12_1Greatest(t *testing.T) {
	for _, p := range []uint64{bigPrime, greatest, greatest - 1} {
		full := api.Mat{Rows: 64, Cols: 64, Cells: slices.Repeat([]uint64{p - 1}, 64*64)}
		right := api.Mat{Rows: 64, Cols: 64, Cells: slices.Repeat([]uint64{64}, 64*64)}
		x := slices.Repeat([]uint64{p - 1}, 64)
		if passes, e := fold.Looks(p, full, full, right, x); e != api.OK || !passes {
			t.Error(p, passes, e)
		}
		if passes, e := fold.Left(p, x, full, full, right); e != api.OK || !passes {
			t.Error(p, passes, e)
		}
		if w, e := fold.Wrong(p, full, full, right); e != api.OK || !all0(w.Cells) || len(w.Cells) != 64*64 {
			t.Error(p, w, e)
		}
		if w, e := fold.Wrong(p, full, full, full); e != api.OK || !slices.Equal(w.Cells, slices.Repeat([]uint64{65}, 64*64)) {
			t.Error(p, w, e)
		}
	}
}

func TestP12_1Wrong(t *testing.T) {
	overClaims(t, func(p uint64, c claim, _ *dice) {
		w, e := fold.Wrong(p, c.a, c.b, c.c)
		if e != api.OK || w.Rows != c.wrong.Rows || w.Cols != c.wrong.Cols || !slices.Equal(w.Cells, c.wrong.Cells) {
			t.Fatalf("Wrong(%d, %v, %v, %v): %v, %d, not %v", p, c.a, c.b, c.c, w, e, c.wrong)
		}
	})
}

func TestP12_1Cost(t *testing.T) {
	sides := []int{math.MinInt, -64, -1, 0, 1, 2, 3, 10, 63, 64, 65, 1 << 31, 1 << 32, 1 << 62, math.MaxInt}
	right := func(n int) bool { return n >= 1 && n <= 64 }
	for _, i := range sides {
		for _, j := range sides {
			for _, k := range sides {
				for _, l := range sides {
					want := 0
					if right(i) && right(j) && right(l) && j == k {
						want = i*j + k*l + i*l
					}
					if n := fold.Cost(api.Mat{Rows: i, Cols: j}, api.Mat{Rows: k, Cols: l}); n != want {
						t.Fatalf("Cost of %d by %d and %d by %d: %d, not %d", i, j, k, l, n, want)
					}
				}
			}
		}
	}
	if n := fold.Cost(mat([]uint64{1, 2, wholeWord}), mat([]uint64{1}, []uint64{2}, []uint64{3})); n != 7 {
		t.Error("a row of 3 and a column of 3 cost 3, 3 and 1:", n)
	}
}

// littleShapes: a modulus, A's rows and columns, and B's columns, of which all that may be A, what is wrong, and x are gone through.
func littleShapes() [][4]int {
	return [][4]int{{2, 1, 1, 1}, {2, 2, 1, 2}, {2, 1, 2, 2}, {2, 2, 2, 2}, {2, 3, 1, 3}, {3, 1, 1, 1}, {3, 1, 1, 2}, {3, 2, 1, 2}, {3, 1, 2, 2}, {4, 1, 1, 2}, {4, 2, 1, 1}, {5, 1, 1, 2}, {6, 1, 1, 1}, {6, 1, 1, 2}, {9, 1, 1, 1}}
}

func prime(p uint64) bool { return big.NewInt(int64(p)).ProbablyPrime(0) }

// silentHolds counts, over all x, those that pass.
func silentHolds(t *testing.T, p uint64, c claim, all [][]uint64) {
	t.Helper()
	var passed uint64
	for _, x := range all {
		if looksHolds(t, p, c, x) {
			passed++
		}
	}
	n, e := fold.Silent(p, c.a, c.b, c.c)
	if e == api.ErrZero && n == 0 && !prime(p) {
		return
	}
	if e != api.OK || n != passed {
		t.Fatalf("Silent(%d, %v, %v, %v): %d, %d, not %d", p, c.a, c.b, c.c, n, e, passed)
	}
	if !all0(c.wrong.Cells) && passed*p > uint64(len(all)) {
		t.Fatalf("modulo %d, of %v, %v, %v: %d of %d pass", p, c.a, c.b, c.c, passed, len(all))
	}
}

func TestP12_3All(t *testing.T) {
	d := dice(4)
	for _, s := range littleShapes() {
		p := uint64(s[0])
		all := allLists(p, s[3])
		for _, a := range allMats(p, s[1], s[2]) {
			for _, wrong := range allMats(p, s[1], s[3]) {
				silentHolds(t, p, claimOf(p, a, d.mat(p, s[2], s[3]), wrong), all)
			}
		}
	}
}

func TestP12_3Primes(t *testing.T) {
	d := dice(5)
	for _, p := range []uint64{2, 3, 5, 7} {
		all := allLists(p, 3)
		for range 60 {
			a, b := d.mat(p, 4, 2), d.mat(p, 2, 3)
			for _, wrong := range []api.Mat{noughts(4, 3), d.mat(p, 4, 3), product(p, d.mat(p, 4, 1), d.mat(p, 1, 3)), product(p, d.mat(p, 4, 2), d.mat(p, 2, 3))} {
				silentHolds(t, p, claimOf(p, a, b, wrong), all)
			}
		}
	}
}

// ofRank: a matrix with so many rows that count, and rows made of these below.
func ofRank(p uint64, rows, cols, rank int, d *dice) api.Mat {
	m := noughts(rows, cols)
	for i := range rank {
		row := m.Cells[i*cols : (i+1)*cols]
		copy(row, d.list(p, cols))
		clear(row[:i])
		row[i] = 1
	}
	if rank > 0 {
		for i := rank; i < rows; i++ {
			made := times(p, turned(api.Mat{Rows: rank, Cols: cols, Cells: m.Cells[:rank*cols]}), d.list(p, rank))
			copy(m.Cells[i*cols:], made)
		}
	}
	return m
}

// powerOf p: nothing and false, if it is 2^63 or more.
func powerOf(p uint64, n int) (uint64, bool) {
	power := new(big.Int).Exp(new(big.Int).SetUint64(p), big.NewInt(int64(n)), nil)
	return power.Uint64(), power.BitLen() <= 63
}

func silentIs(t *testing.T, p uint64, c claim, many int) {
	t.Helper()
	want, wantE := uint64(0), api.ErrLong
	if power, short := powerOf(p, many); short {
		want, wantE = power, api.OK
	}
	if n, e := fold.Silent(p, c.a, c.b, c.c); n != want || e != wantE {
		t.Fatalf("Silent(%d, %v, %v, %v): %d, %d, not %d, %d", p, c.a, c.b, c.c, n, e, want, wantE)
	}
}

func TestP12_2Ranks(t *testing.T) {
	d := dice(8)
	for _, p := range append(primes(), others()...) {
		for _, s := range shapes() {
			a, b := d.mat(p, s[0], s[1]), d.mat(p, s[1], s[2])
			most := min(s[0], s[2])
			for _, rank := range []int{0, 1, most / 2, most - 1, most} {
				silentIs(t, p, claimOf(p, a, b, ofRank(p, s[0], s[2], rank, &d)), s[2]-rank)
			}
		}
	}
}

// The edges of 2^63: moduli and powers of which the greatest is below, and the least isn't.
func TestP12_2Edges(t *testing.T) {
	d := dice(9)
	for _, c := range []struct {
		p    uint64
		most int // times by itself that are below 2^63
	}{
		{2, 62}, {3, 39}, {4, 31}, {5, 27}, {7, 22}, {8, 20}, {10, 18}, {127, 9}, {128, 8}, {511, 7}, {512, 6},
		{2097151, 3}, {2097152, 2}, {3037000499, 2}, {3037000500, 1}, {1 << 32, 1}, {1 << 62, 1}, {bigPrime, 1}, {greatest, 1},
	} {
		for _, many := range []int{0, 1, c.most - 1, c.most, c.most + 1, c.most + 2, 63, 64} {
			if _, short := powerOf(c.p, many); short != (many <= c.most) {
				t.Fatalf("%d by itself %d times is told wrong here", c.p, many)
			}
			for _, cols := range []int{max(1, many), 64} {
				if many > cols {
					continue
				}
				wrong := ofRank(c.p, 64, cols, cols-many, &d)
				silentIs(t, c.p, claimOf(c.p, d.mat(c.p, 64, 1), d.mat(c.p, 1, cols), wrong), many)
			}
		}
	}
}

// The columns are B's, not A's, and the rows don't count.
func TestP12_2Columns(t *testing.T) {
	for _, s := range [][3]int{{1, 1, 5}, {5, 1, 1}, {1, 5, 1}, {9, 3, 2}, {2, 9, 3}, {3, 2, 9}} {
		a, b, c := noughts(s[0], s[1]), noughts(s[1], s[2]), noughts(s[0], s[2])
		silentIs(t, 7, claim{a: a, b: b, c: c}, s[2])
		c.Cells[len(c.Cells)-1] = 3
		silentIs(t, 7, claim{a: a, b: b, c: c}, s[2]-1)
	}
}

func TestP12_2Zero(t *testing.T) {
	d := dice(10)
	for _, c := range []struct {
		p     uint64
		wrong api.Mat
	}{
		{4, mat([]uint64{2})},
		{6, mat([]uint64{3})},
		{6, mat([]uint64{2, 1})}, // 1 has one, but 2 stands first
		{4, mat([]uint64{1, 0}, []uint64{0, 2})},
		{4, mat([]uint64{0, 2}, []uint64{1, 0})},
		{greatest, mat([]uint64{649657})},
	} {
		k := claimOf(c.p, d.mat(c.p, c.wrong.Rows, 3), d.mat(c.p, 3, c.wrong.Cols), c.wrong)
		if n, e := fold.Silent(c.p, k.a, k.b, k.c); n != 0 || e != api.ErrZero {
			t.Errorf("Silent, modulo %d, of %v: %d, %d", c.p, c.wrong, n, e)
		}
	}
	wide := noughts(2, 64)
	wide.Cells[70] = 2
	k := claimOf(4, d.mat(4, 2, 3), d.mat(4, 3, 64), wide)
	if n, e := fold.Silent(4, k.a, k.b, k.c); n != 0 || e != api.ErrZero {
		t.Errorf("ErrZero goes ahead of ErrLong: %d, %d", n, e)
	}
	wide.Cells[70] = 3
	k = claimOf(4, k.a, k.b, wide)
	if n, e := fold.Silent(4, k.a, k.b, k.c); n != 0 || e != api.ErrLong {
		t.Errorf("3 has an Inv modulo 4: %d, %d", n, e)
	}
	for p, want := range map[uint64]uint64{4: 4, 6: 6, 15: 15} {
		k := claimOf(p, mat([]uint64{1}), mat([]uint64{1, 1}), mat([]uint64{1, p - 1}))
		if n, e := fold.Silent(p, k.a, k.b, k.c); n != want || e != api.OK {
			t.Errorf("Silent, modulo %d, where all that is needed has an Inv: %d, %d", p, n, e)
		}
	}
}

// One part in p of all x, where the rank of what is wrong is 1: so the bound is met.
func TestP12_3Met(t *testing.T) {
	for _, p := range []uint64{2, 3, 7, 101} {
		c := claimOf(p, mat([]uint64{1}, []uint64{0}), mat([]uint64{1}), mat([]uint64{0}, []uint64{1}))
		var passed int
		for x := range p {
			if looksHolds(t, p, c, []uint64{x}) {
				passed++
			}
		}
		if passed != 1 {
			t.Errorf("modulo %d: %d pass", p, passed)
		}
	}
}

// refused asks everything for which there is ErrArg, whatever the vectors.
func refused(t *testing.T, p uint64, a, b, c api.Mat, x, y []uint64) {
	t.Helper()
	refusedBy(t, p, a, b, c, x)
	if passes, e := fold.Left(p, y, a, b, c); passes || e != api.ErrArg {
		t.Errorf("Left(%d, %v, %v, %v, %v): %v, %d", p, y, a, b, c, passes, e)
	}
	if w, e := fold.Wrong(p, a, b, c); w.Rows != 0 || w.Cols != 0 || len(w.Cells) != 0 || e != api.ErrArg {
		t.Errorf("Wrong(%d, %v, %v, %v): %v, %d", p, a, b, c, w, e)
	}
	if n, e := fold.Silent(p, a, b, c); n != 0 || e != api.ErrArg {
		t.Errorf("Silent(%d, %v, %v, %v): %d, %d", p, a, b, c, n, e)
	}
}

func refusedBy(t *testing.T, p uint64, a, b, c api.Mat, x []uint64) {
	t.Helper()
	if passes, e := fold.Looks(p, a, b, c, x); passes || e != api.ErrArg {
		t.Errorf("Looks(%d, %v, %v, %v, %v): %v, %d", p, a, b, c, x, passes, e)
	}
	if fold.Tells(p, a, b, c, x) {
		t.Errorf("Tells(%d, %v, %v, %v, %v)", p, a, b, c, x)
	}
}

// wrongMats of the modulus 7.
func wrongMats() []api.Mat {
	l := []api.Mat{
		{}, {Rows: 1, Cols: 1}, {Rows: 1, Cols: 1, Cells: []uint64{1, 2}}, {Rows: 1, Cols: 1, Cells: []uint64{7}}, {Rows: 1, Cols: 1, Cells: []uint64{wholeWord}},
		{Rows: -1, Cols: -1, Cells: []uint64{1}}, {Rows: 65, Cols: 1, Cells: make([]uint64, 65)}, {Rows: 1, Cols: 65, Cells: make([]uint64, 65)},
		{Rows: 65, Cols: 65, Cells: make([]uint64, 65*65)},
	}
	for _, n := range []int{0, -1, 65, math.MinInt, math.MaxInt, 1 << 32, 1 << 62} {
		l = append(l, api.Mat{Rows: n, Cols: n}, api.Mat{Rows: n, Cols: 1, Cells: []uint64{1}}, api.Mat{Rows: 1, Cols: n, Cells: []uint64{1}})
	}
	return l
}

// zeros: a vector of so many, if there may be one.
func zeros(many int) []uint64 { return make([]uint64, max(0, min(many, 100))) }

func TestWrongMat(t *testing.T) {
	one := mat([]uint64{1})
	for _, m := range wrongMats() {
		refused(t, 7, m, one, one, zeros(1), zeros(1))
		refused(t, 7, m, one, one, zeros(1), zeros(m.Rows))
		refused(t, 7, one, m, one, zeros(1), zeros(1))
		refused(t, 7, one, m, one, zeros(m.Cols), zeros(1))
		refused(t, 7, one, one, m, zeros(1), zeros(1))
		refused(t, 7, one, one, m, zeros(m.Cols), zeros(m.Rows))
		refused(t, 7, m, m, m, zeros(m.Cols), zeros(m.Rows))
	}
	// Each is wrong alone, though its sides meet the others'.
	for i := range 3 {
		for _, cells := range [][]uint64{nil, {1, 2, 3}, {1, 2, 3, 4, 5}, {7, 0, 0, 0}, {0, 0, 0, 7}, {0, 0, wholeWord, 0}} {
			three := []api.Mat{mat([]uint64{1, 2}, []uint64{3, 4}), mat([]uint64{1, 2}, []uint64{3, 4}), mat([]uint64{0, 3}, []uint64{1, 1})}
			three[i].Cells = cells
			refused(t, 7, three[0], three[1], three[2], zeros(2), zeros(2))
		}
	}
	two := mat([]uint64{1, 2}, []uint64{2, 4})
	for _, p := range append(wrongModuli(), 2, 3, 4) {
		refused(t, p, two, two, two, zeros(2), zeros(2))
	}
	for _, p := range wrongModuli() {
		refused(t, p, noughts(1, 1), noughts(1, 1), noughts(1, 1), zeros(1), zeros(1))
	}
}

// Sides that don't meet: all of up to 3, and some of 64.
func TestWrongMeeting(t *testing.T) {
	sides := []int{1, 2, 3, 64}
	for _, l := range allLists(4, 6) {
		var s [6]int
		for i, place := range l {
			s[i] = sides[place]
		}
		a, b, c := noughts(s[0], s[1]), noughts(s[2], s[3]), noughts(s[4], s[5])
		if s[1] == s[2] && s[0] == s[4] && s[3] == s[5] {
			if passes, e := fold.Looks(7, a, b, c, zeros(s[3])); !passes || e != api.OK {
				t.Errorf("sides %v: %v, %d", s, passes, e)
			}
			continue
		}
		refused(t, 7, a, b, c, zeros(s[3]), zeros(s[0]))
		refused(t, 7, a, b, c, zeros(s[5]), zeros(s[4]))
	}
}

func TestWrongVector(t *testing.T) {
	for _, wrong := range []api.Mat{noughts(3, 2), mat([]uint64{1, 2}, []uint64{0, 0}, []uint64{0, 5})} {
		k := claimOf(7, noughts(3, 1), noughts(1, 2), wrong)
		for _, x := range [][]uint64{nil, {}, {1}, {1, 1, 1}, {7, 0}, {0, 7}, {0, wholeWord}, {beyond, 0}, zeros(64)} {
			refusedBy(t, 7, k.a, k.b, k.c, x)
		}
		for _, y := range [][]uint64{nil, {}, {1}, {1, 1}, {1, 1, 1, 1}, {7, 0, 0}, {0, 7, 0}, {0, 0, 7}, {0, 0, wholeWord}, zeros(64)} {
			if passes, e := fold.Left(7, y, k.a, k.b, k.c); passes || e != api.ErrArg {
				t.Errorf("Left(7, %v, %v): %v, %d", y, k, passes, e)
			}
		}
	}
}

// roomy is a copy with spare room behind it, filled with a mark.
func roomy(l []uint64) []uint64 {
	return append(slices.Clone(l), slices.Repeat([]uint64{wholeWord}, 80)...)[:len(l)]
}

func untouched(room, l []uint64) bool {
	all := room[:len(l)+80]
	return slices.Equal(all[:len(l)], l) && !slices.ContainsFunc(all[len(l):], func(x uint64) bool { return x != wholeWord })
}

func spoil(answer []uint64) {
	answer = answer[:cap(answer)]
	for i := range answer {
		answer[i] = 1
	}
}

// What is handed in isn't changed, nor its spare room; an answer shares nothing with it, nor with the next one.
func TestMemory(t *testing.T) {
	calls := []func(p uint64, a, b, c api.Mat, x, y []uint64) []uint64{
		func(p uint64, a, b, c api.Mat, x, _ []uint64) []uint64 { fold.Looks(p, a, b, c, x); return nil },
		func(p uint64, a, b, c api.Mat, _, y []uint64) []uint64 { fold.Left(p, y, a, b, c); return nil },
		func(p uint64, a, b, c api.Mat, _, _ []uint64) []uint64 {
			w, _ := fold.Wrong(p, a, b, c)
			return w.Cells
		},
		func(p uint64, a, b, c api.Mat, x, _ []uint64) []uint64 { fold.Tells(p, a, b, c, x); return nil },
		func(p uint64, a, b, c api.Mat, _, _ []uint64) []uint64 { fold.Silent(p, a, b, c); return nil },
	}
	overClaims(t, func(p uint64, k claim, d *dice) {
		x, y := d.list(p, k.b.Cols), d.list(p, k.a.Rows)
		given := [][]uint64{roomy(k.a.Cells), roomy(k.b.Cells), roomy(k.c.Cells), roomy(x), roomy(y)}
		a, b, c := k.a, k.b, k.c
		a.Cells, b.Cells, c.Cells = given[0], given[1], given[2]
		for i, call := range calls {
			answer := call(p, a, b, c, given[3], given[4])
			want := slices.Clone(answer)
			spoil(answer)
			for j, l := range [][]uint64{k.a.Cells, k.b.Cells, k.c.Cells, x, y} {
				if !untouched(given[j], l) {
					t.Fatalf("call %d changes what it is given, or shares with it: %d, %v", i, p, k)
				}
			}
			if !slices.Equal(call(p, a, b, c, given[3], given[4]), want) {
				t.Fatalf("call %d answers another time otherwise: %d, %v", i, p, k)
			}
		}
	})
}

// One matrix may stand in more than one place.
func TestOneForAll(t *testing.T) {
	m := mat([]uint64{1, 0}, []uint64{0, 0})
	if passes, e := fold.Looks(7, m, m, m, []uint64{3, 5}); !passes || e != api.OK {
		t.Error(passes, e)
	}
	if n, e := fold.Silent(7, m, m, m); n != 49 || e != api.OK {
		t.Error(n, e)
	}
	if w, e := fold.Wrong(7, m, m, m); !all0(w.Cells) || e != api.OK || m.Cells[0] != 1 {
		t.Error(w, e, m)
	}
}
