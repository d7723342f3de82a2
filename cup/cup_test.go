package cup_test

import (
	"math"
	"math/big"
	"slices"
	"testing"

	"affidavit/api"
	"affidavit/cup"
)

const (
	greatest  = math.MaxInt64 // the greatest modulus: 7 * 7 * 73 * 127 * 337 * 92737 * 649657
	bigPrime  = greatest - 24 // the greatest prime below it
	beyond    = api.MostPrime // the least that is too great
	mersenne  = 1<<61 - 1     // a prime
	halfWord  = 1<<32 - 5     // the greatest prime of 32 bits
	wholeWord = math.MaxUint64
	mark      = -99 // in spare room
)

func primes() []uint64 { return []uint64{2, 3, 5, 7, 101, 65537, halfWord, mersenne, bigPrime} }

func others() []uint64 {
	return []uint64{4, 6, 8, 9, 12, 15, 35, 1 << 32, 1 << 62, greatest - 1, greatest}
}

func wrongModuli() []uint64 {
	return []uint64{0, 1, beyond, beyond + 1, beyond + 25, wholeWord}
}

func wrongSides() []int {
	return []int{0, -1, 65, 66, -64, math.MinInt, math.MaxInt, 1 << 32, 1<<32 + 1, 1 << 62}
}

// dice makes numbers that look like chance and are the same each time.
type dice uint64

func (d *dice) word() uint64 {
	*d ^= *d << 13
	*d ^= *d >> 7
	*d ^= *d << 17
	return uint64(*d)
}

func (d *dice) below(n int) int { return int(d.word() % uint64(n)) }

// list of just so many numbers, noughts and the greatest now and then.
func (d *dice) list(p uint64, many int) []uint64 {
	l := make([]uint64, many)
	for i := range l {
		switch d.word() % 6 {
		case 0:
		case 1:
			l[i] = p - 1
		default:
			l[i] = d.word() % p
		}
	}
	return l
}

func (d *dice) mat(p uint64, rows, cols int) api.Mat {
	return api.Mat{Rows: rows, Cols: cols, Cells: d.list(p, rows*cols)}
}

// poor has a rank of at most so much: each row is a sum of rows of as many others, and a column now and then is 0.
func (d *dice) poor(p uint64, rows, cols, rank int) api.Mat {
	if rank == 0 {
		return api.Mat{Rows: rows, Cols: cols, Cells: make([]uint64, rows*cols)}
	}
	m := product(p, d.mat(p, rows, rank), d.mat(p, rank, cols))
	for j := range cols {
		if d.below(4) > 0 {
			continue
		}
		for i := range rows {
			m.Cells[i*cols+j] = 0
		}
	}
	return m
}

// turnedAbout has one number, not 0, in each row and column.
func (d *dice) turnedAbout(p uint64, n int) api.Mat {
	m := api.Mat{Rows: n, Cols: n, Cells: make([]uint64, n*n)}
	cols := make([]int, n)
	for i := range cols {
		cols[i] = i
	}
	for i := range cols {
		j := i + d.below(n-i)
		cols[i], cols[j] = cols[j], cols[i]
		m.Cells[i*n+cols[i]] = 1 + d.word()%(p-1)
	}
	return m
}

type shape struct{ rows, cols int }

func shapes() []shape {
	return []shape{{1, 1}, {1, 2}, {2, 1}, {2, 2}, {2, 3}, {3, 2}, {4, 4}, {5, 9}, {9, 5}, {12, 12}, {1, 64}, {64, 1}, {20, 33}}
}

// mats of a modulus: of all shapes, whole and poor ones.
func (d *dice) mats(p uint64) []api.Mat {
	var l []api.Mat
	for _, sh := range shapes() {
		l = append(l, d.mat(p, sh.rows, sh.cols), d.poor(p, sh.rows, sh.cols, 0), d.poor(p, sh.rows, sh.cols, 1))
		for range 3 {
			l = append(l, d.poor(p, sh.rows, sh.cols, 1+d.below(min(sh.rows, sh.cols))))
		}
	}
	for n := 1; n <= 9; n++ {
		l = append(l, d.mat(p, n, n), d.turnedAbout(p, n))
	}
	return append(l, d.mat(p, 64, 64), d.poor(p, 64, 64, 40), d.mat(p, 63, 64), d.turnedAbout(p, 64))
}

// all matrices of some numbers.
func all(numbers []uint64, rows, cols int) []api.Mat {
	lists := [][]uint64{nil}
	for range rows * cols {
		var longer [][]uint64
		for _, l := range lists {
			for _, x := range numbers {
				longer = append(longer, append(slices.Clone(l), x))
			}
		}
		lists = longer
	}
	var l []api.Mat
	for _, cells := range lists {
		l = append(l, api.Mat{Rows: rows, Cols: cols, Cells: cells})
	}
	return l
}

func upTo(p uint64) []uint64 {
	var l []uint64
	for x := range p {
		l = append(l, x)
	}
	return l
}

func word(x uint64) *big.Int { return new(big.Int).SetUint64(x) }

func words(l []uint64) []*big.Int {
	var many []*big.Int
	for _, x := range l {
		many = append(many, word(x))
	}
	return many
}

func reduced(p uint64, x *big.Int) uint64 { return new(big.Int).Mod(x, word(p)).Uint64() }

func row(m api.Mat, i int) []uint64 { return m.Cells[i*m.Cols : (i+1)*m.Cols] }

// turned: rows for columns.
func turned(m api.Mat) api.Mat {
	u := api.Mat{Rows: m.Cols, Cols: m.Rows}
	for j := range m.Cols {
		for i := range m.Rows {
			u.Cells = append(u.Cells, m.Cells[i*m.Cols+j])
		}
	}
	return u
}

// head is a matrix's first rows.
func head(m api.Mat, rows int) api.Mat {
	return api.Mat{Rows: rows, Cols: m.Cols, Cells: m.Cells[:rows*m.Cols]}
}

// sums is, for each list of numbers, the sum of that often each of the other lists, which are of so many.
func sums(p uint64, often, lists [][]uint64, many int) []uint64 {
	var l []uint64
	for _, numbers := range often {
		for j := range many {
			s := new(big.Int)
			for k, x := range numbers {
				s.Add(s, new(big.Int).Mul(word(x), word(lists[k][j])))
			}
			l = append(l, reduced(p, s))
		}
	}
	return l
}

func product(p uint64, a, b api.Mat) api.Mat {
	l := sums(p, slices.Collect(slices.Chunk(a.Cells, a.Cols)), slices.Collect(slices.Chunk(b.Cells, b.Cols)), b.Cols)
	return api.Mat{Rows: a.Rows, Cols: b.Cols, Cells: l}
}

// slowTake from the words of the document alone, by math/big.
func slowTake(p uint64, m api.Mat) (api.Cup, api.Errno) {
	var c api.Cup
	for i := range m.Rows {
		rest, taken := words(row(m, i)), []uint64{}
		for k, u := range c.U {
			inv := new(big.Int).ModInverse(word(u[c.Cols[k]]), word(p))
			times := new(big.Int).Mul(rest[c.Cols[k]], inv)
			times.Mod(times, word(p))
			for j := range rest {
				rest[j].Sub(rest[j], new(big.Int).Mul(times, word(u[j])))
				rest[j].Mod(rest[j], word(p))
			}
			taken = append(taken, times.Uint64())
		}
		for j, x := range rest {
			if x.Sign() == 0 {
				continue
			}
			if new(big.Int).GCD(nil, nil, x, word(p)).Cmp(word(1)) != 0 {
				return api.Cup{}, api.ErrZero
			}
			var u []uint64
			for _, y := range rest {
				u = append(u, y.Uint64())
			}
			c.Rows, c.Cols, c.U = append(c.Rows, i), append(c.Cols, j), append(c.U, u)
			taken = append(taken, 1)
			break
		}
		c.C = append(c.C, taken)
	}
	for i := range c.C {
		for len(c.C[i]) < len(c.Rows) {
			c.C[i] = append(c.C[i], 0)
		}
	}
	return c, api.OK
}

// slowRank is by rows changed about, modulo a prime.
func slowRank(p uint64, m api.Mat) int {
	var rows [][]*big.Int
	for i := range m.Rows {
		rows = append(rows, words(row(m, i)))
	}
	rank := 0
	for j := range m.Cols {
		at := slices.IndexFunc(rows[rank:], func(l []*big.Int) bool { return l[j].Sign() != 0 })
		if at < 0 {
			continue
		}
		rows[rank], rows[rank+at] = rows[rank+at], rows[rank]
		inv := new(big.Int).ModInverse(rows[rank][j], word(p))
		for _, l := range rows[rank+1:] {
			times := new(big.Int).Mul(l[j], inv)
			for k := range l {
				l[k].Sub(l[k], new(big.Int).Mul(times, rows[rank][k]))
				l[k].Mod(l[k], word(p))
			}
		}
		if rank++; rank == m.Rows {
			break
		}
	}
	return rank
}

// slowDet is that of the whole numbers, by Bareiss, modulo p at last: right modulo any number.
func slowDet(p uint64, m api.Mat) uint64 {
	var rows [][]*big.Int
	for i := range m.Rows {
		rows = append(rows, words(row(m, i)))
	}
	sign, before := int64(1), big.NewInt(1)
	for k := range rows {
		at := slices.IndexFunc(rows[k:], func(l []*big.Int) bool { return l[k].Sign() != 0 })
		if at < 0 {
			return 0
		}
		if at > 0 {
			rows[k], rows[k+at] = rows[k+at], rows[k]
			sign = -sign
		}
		for _, l := range rows[k+1:] {
			for j := m.Cols - 1; j >= k; j-- {
				x := new(big.Int).Mul(l[j], rows[k][k])
				l[j] = x.Sub(x, new(big.Int).Mul(l[k], rows[k][j])).Quo(x, before)
			}
		}
		before = rows[k][k]
	}
	return reduced(p, new(big.Int).Mul(before, big.NewInt(sign)))
}

func sameLists(a, b [][]uint64) bool { return slices.EqualFunc(a, b, slices.Equal) }

func sameCup(a, b api.Cup) bool {
	return slices.Equal(a.Rows, b.Rows) && slices.Equal(a.Cols, b.Cols) && sameLists(a.C, b.C) && sameLists(a.U, b.U)
}

func sameMat(a, b api.Mat) bool {
	return a.Rows == b.Rows && a.Cols == b.Cols && slices.Equal(a.Cells, b.Cells)
}

func noCup(c api.Cup) bool {
	return len(c.Rows) == 0 && len(c.Cols) == 0 && len(c.C) == 0 && len(c.U) == 0
}

func noMat(m api.Mat) bool { return m.Rows == 0 && m.Cols == 0 && len(m.Cells) == 0 }

// The calls, where all is well.

func take(t *testing.T, p uint64, m api.Mat) api.Cup {
	t.Helper()
	c, e := cup.Take(p, m)
	if e != api.OK {
		t.Fatalf("Take(%d, %v): %d", p, m, e)
	}
	return c
}

func rank(t *testing.T, p uint64, m api.Mat) int {
	t.Helper()
	r, e := cup.Rank(p, m)
	if e != api.OK {
		t.Fatalf("Rank(%d, %v): %d", p, m, e)
	}
	return r
}

func profile(t *testing.T, p uint64, m api.Mat) []int {
	t.Helper()
	l, e := cup.Profile(p, m)
	if e != api.OK {
		t.Fatalf("Profile(%d, %v): %d", p, m, e)
	}
	return l
}

func det(t *testing.T, p uint64, m api.Mat) uint64 {
	t.Helper()
	x, e := cup.Det(p, m)
	if e != api.OK {
		t.Fatalf("Det(%d, %v): %d", p, m, e)
	}
	return x
}

func minor(t *testing.T, p uint64, m api.Mat) api.Mat {
	t.Helper()
	n, e := cup.Minor(p, m)
	if e != api.OK {
		t.Fatalf("Minor(%d, %v): %d", p, m, e)
	}
	return n
}

// refused asks everything of a matrix for which there is an error alone; Det's may be another one.
func refused(t *testing.T, p uint64, m api.Mat, want, wantDet api.Errno) {
	t.Helper()
	if c, e := cup.Take(p, m); e != want || !noCup(c) {
		t.Errorf("Take(%d, %v): %v, %d, not %d", p, m, c, e, want)
	}
	if r, e := cup.Rank(p, m); e != want || r != 0 {
		t.Errorf("Rank(%d, %v): %d, %d, not %d", p, m, r, e, want)
	}
	if l, e := cup.Profile(p, m); e != want || len(l) != 0 {
		t.Errorf("Profile(%d, %v): %v, %d, not %d", p, m, l, e, want)
	}
	if n, e := cup.Minor(p, m); e != want || !noMat(n) {
		t.Errorf("Minor(%d, %v): %v, %d, not %d", p, m, n, e, want)
	}
	if x, e := cup.Det(p, m); e != wantDet || x != 0 {
		t.Errorf("Det(%d, %v): %d, %d, not %d", p, m, x, e, wantDet)
	}
}

// detError is Det's error of a matrix that can't be taken apart.
func detError(m api.Mat, e api.Errno) api.Errno {
	if m.Rows != m.Cols {
		return api.ErrArg
	}
	return e
}

// slowMinor picks the rows that count, and, from the first on, the columns that they found.
func slowMinor(m api.Mat, c api.Cup) api.Mat {
	n := api.Mat{Rows: len(c.Rows), Cols: len(c.Rows)}
	for _, i := range c.Rows {
		for j, x := range row(m, i) {
			if slices.Contains(c.Cols, j) {
				n.Cells = append(n.Cells, x)
			}
		}
	}
	return n
}

// asked holds all that is asked of a matrix against the words of the document.
func asked(t *testing.T, p uint64, m api.Mat) {
	t.Helper()
	want, e := slowTake(p, m)
	if e != api.OK {
		refused(t, p, m, e, detError(m, e))
		return
	}
	if c := take(t, p, m); !sameCup(c, want) {
		t.Fatalf("Take(%d, %v): %v, not %v", p, m, c, want)
	}
	if r := rank(t, p, m); r != len(want.Rows) {
		t.Fatalf("Rank(%d, %v): %d", p, m, r)
	}
	if l := profile(t, p, m); !slices.Equal(l, want.Rows) {
		t.Fatalf("Profile(%d, %v): %v, not %v", p, m, l, want.Rows)
	}
	if m.Rows == m.Cols {
		if x := det(t, p, m); x != slowDet(p, m) {
			t.Fatalf("Det(%d, %v): %d, not %d", p, m, x, slowDet(p, m))
		}
	} else if x, e := cup.Det(p, m); e != api.ErrArg || x != 0 {
		t.Fatalf("Det(%d, %v): %d, %d", p, m, x, e)
	}
	if len(want.Rows) == 0 {
		if n, e := cup.Minor(p, m); e != api.ErrNone || !noMat(n) {
			t.Fatalf("Minor(%d, %v): %v, %d", p, m, n, e)
		}
	} else if n := minor(t, p, m); !sameMat(n, slowMinor(m, want)) {
		t.Fatalf("Minor(%d, %v): %v, not %v", p, m, n, slowMinor(m, want))
	}
}

// wrongMats of a modulus that may be.
func wrongMats(p uint64) []api.Mat {
	l := []api.Mat{
		{},
		{Cells: []uint64{0}},
		{Rows: 1, Cols: 1},
		{Rows: 1, Cols: 1, Cells: []uint64{1, 1}},
		{Rows: 1, Cols: 1, Cells: []uint64{p}},
		{Rows: 1, Cols: 1, Cells: []uint64{wholeWord}},
		{Rows: 1, Cols: 2, Cells: []uint64{1}},
		{Rows: 2, Cols: 1, Cells: []uint64{1}},
		{Rows: 2, Cols: 2, Cells: make([]uint64, 3)},
		{Rows: 2, Cols: 2, Cells: make([]uint64, 5)},
		{Rows: 2, Cols: 2, Cells: []uint64{1, 0, 0, p}},
		{Rows: 2, Cols: 2, Cells: []uint64{p + 1, 0, 0, 1}},
		{Rows: 2, Cols: 3, Cells: []uint64{0, 0, 0, 0, 0, p}},
		{Rows: -2, Cols: -2, Cells: make([]uint64, 4)},
		{Rows: 64, Cols: 64, Cells: make([]uint64, 4095)},
		{Rows: 64, Cols: 64, Cells: make([]uint64, 4097)},
		{Rows: 65, Cols: 65, Cells: make([]uint64, 65*65)},
		{Rows: 64, Cols: 65, Cells: make([]uint64, 64*65)},
		{Rows: 65, Cols: 64, Cells: make([]uint64, 64*65)},
	}
	for _, n := range wrongSides() {
		many := max(0, min(n, 100))
		l = append(l,
			api.Mat{Rows: n, Cols: 1, Cells: make([]uint64, many)},
			api.Mat{Rows: 1, Cols: n, Cells: make([]uint64, many)},
			api.Mat{Rows: n, Cols: n},
			api.Mat{Rows: n, Cols: 4}, // 2^62 times 4 is 0, as words go
			api.Mat{Rows: 4, Cols: n},
			api.Mat{Rows: n, Cols: n, Cells: make([]uint64, 1)})
	}
	return l
}

func TestP7_1Known(t *testing.T) {
	m := api.Mat{Rows: 4, Cols: 3, Cells: []uint64{0, 2, 4, 0, 4, 1, 3, 0, 1, 3, 2, 5}}
	want := api.Cup{
		Rows: []int{0, 2}, Cols: []int{1, 0},
		C: [][]uint64{{1, 0}, {2, 0}, {0, 1}, {1, 1}},
		U: [][]uint64{{0, 2, 4}, {3, 0, 1}},
	}
	if c := take(t, 7, m); !sameCup(c, want) {
		t.Error(c)
	}
	if r, l := rank(t, 7, m), profile(t, 7, m); r != 2 || !slices.Equal(l, []int{0, 2}) {
		t.Error(r, l)
	}
	two := api.Mat{Rows: 2, Cols: 2, Cells: []uint64{1, 2, 2, 4}}
	if r, l, x := rank(t, 7, two), profile(t, 7, two), det(t, 7, two); r != 1 || !slices.Equal(l, []int{0}) || x != 0 {
		t.Error(r, l, x)
	}
	// 1 times the first rest, whose number in its column is p - 1, takes p - 1 away: nothing is left.
	c := take(t, bigPrime, api.Mat{Rows: 2, Cols: 1, Cells: []uint64{bigPrime - 1, 1}})
	if !sameCup(c, api.Cup{Rows: []int{0}, Cols: []int{0}, C: [][]uint64{{1}, {bigPrime - 1}}, U: [][]uint64{{bigPrime - 1}}}) {
		t.Error(c)
	}
	// Nothing but noughts: each row has its numbers, none.
	zero := api.Mat{Rows: 3, Cols: 2, Cells: make([]uint64, 6)}
	if c := take(t, 2, zero); !sameCup(c, api.Cup{C: [][]uint64{{}, {}, {}}}) {
		t.Error(c)
	}
	if r, l := rank(t, 2, zero), profile(t, 2, zero); r != 0 || len(l) != 0 {
		t.Error(r, l)
	}
}

func TestP7_1Det(t *testing.T) {
	for _, c := range []struct {
		p     uint64
		n     int
		cells []uint64
		det   uint64
	}{
		{2, 1, []uint64{0}, 0}, {2, 1, []uint64{1}, 1}, {7, 1, []uint64{5}, 5}, {greatest, 1, []uint64{greatest - 1}, greatest - 1},
		{7, 2, []uint64{1, 2, 3, 4}, 5}, {7, 2, []uint64{0, 1, 1, 0}, 6}, {2, 2, []uint64{0, 1, 1, 0}, 1}, {7, 2, []uint64{0, 0, 0, 0}, 0},
		{7, 2, []uint64{1, 2, 3, 6}, 0}, {7, 2, []uint64{0, 0, 1, 2}, 0}, {7, 2, []uint64{1, 2, 0, 0}, 0},
		{7, 3, []uint64{0, 0, 2, 0, 3, 0, 4, 0, 0}, 4}, {7, 3, []uint64{0, 1, 0, 0, 0, 1, 1, 0, 0}, 1}, {7, 3, []uint64{1, 2, 3, 4, 5, 6, 0, 1, 2}, 0},
		{7, 4, []uint64{0, 1, 0, 0, 0, 0, 1, 0, 0, 0, 0, 1, 1, 0, 0, 0}, 6}, {4, 2, []uint64{3, 2, 2, 1}, 3},
	} {
		if x := det(t, c.p, api.Mat{Rows: c.n, Cols: c.n, Cells: c.cells}); x != c.det {
			t.Errorf("Det(%d, %v): %d, not %d", c.p, c.cells, x, c.det)
		}
	}
}

// All matrices of few numbers, modulo primes and others.
func TestP7_1All(t *testing.T) {
	for _, c := range []struct {
		p          uint64
		numbers    []uint64
		rows, cols int
	}{
		{2, upTo(2), 1, 1}, {2, upTo(2), 3, 3}, {2, upTo(2), 2, 5}, {2, upTo(2), 5, 2}, {3, upTo(3), 2, 3}, {3, upTo(3), 3, 2}, {5, upTo(5), 2, 2},
		{4, upTo(4), 1, 2}, {4, upTo(4), 2, 2}, {6, upTo(6), 2, 2}, {6, upTo(6), 3, 1}, {4, upTo(4), 3, 2}, {9, []uint64{0, 1, 3}, 2, 3},
		{3, []uint64{0, 1}, 3, 3}, {7, []uint64{0, 3}, 3, 3}, {bigPrime, []uint64{0, bigPrime - 1}, 3, 3}, {greatest, []uint64{0, 7, greatest - 1}, 2, 2},
	} {
		for _, m := range all(c.numbers, c.rows, c.cols) {
			asked(t, c.p, m)
		}
	}
}

func TestP7_1Prime(t *testing.T) {
	d := dice(1)
	for _, p := range primes() {
		for _, m := range d.mats(p) {
			asked(t, p, m)
			if r := rank(t, p, m); r != slowRank(p, m) {
				t.Fatalf("Rank(%d, %v): %d, not %d", p, m, r, slowRank(p, m))
			}
		}
	}
}

// Where p isn't prime, many can't be taken apart.
func TestP7_1Others(t *testing.T) {
	d := dice(2)
	for _, p := range others() {
		well, ill := 0, 0
		for range 60 {
			m := d.mat(p, 1+d.below(3), 1+d.below(3))
			if _, e := slowTake(p, m); e == api.OK {
				well++
			} else {
				ill++
			}
			asked(t, p, m)
		}
		if well == 0 || ill == 0 && p < 100 {
			t.Errorf("modulo %d: %d well, %d ill: what should be held against the document isn't met", p, well, ill)
		}
		for _, m := range d.mats(p) {
			asked(t, p, m)
		}
	}
}

func TestP7_1Wrong(t *testing.T) {
	d := dice(3)
	for _, p := range append(primes(), others()...) {
		for _, m := range wrongMats(p) {
			refused(t, p, m, api.ErrArg, api.ErrArg)
		}
	}
	for _, p := range wrongModuli() {
		for _, sh := range shapes() {
			refused(t, p, api.Mat{Rows: sh.rows, Cols: sh.cols, Cells: make([]uint64, sh.rows*sh.cols)}, api.ErrArg, api.ErrArg)
			refused(t, p, d.mat(7, sh.rows, sh.cols), api.ErrArg, api.ErrArg)
		}
	}
	refused(t, 7, api.Mat{}, api.ErrArg, api.ErrArg)
}

// ErrZero is told just if the first number of a rest has no Inv, and not ahead of ErrArg.
func TestP7_1Zero(t *testing.T) {
	for _, c := range []struct {
		p          uint64
		rows, cols int
		cells      []uint64
		e          api.Errno
	}{
		{4, 1, 1, []uint64{2}, api.ErrZero},
		{4, 1, 2, []uint64{2, 1}, api.ErrZero}, // 1 has one, but it isn't the first
		{4, 1, 2, []uint64{1, 2}, api.OK},
		{4, 2, 2, []uint64{1, 0, 0, 2}, api.ErrZero}, // no later row
		{4, 2, 2, []uint64{1, 2, 1, 0}, api.ErrZero}, // what is left is 0 2
		{4, 2, 2, []uint64{1, 2, 2, 0}, api.OK},      // nothing is left
		{4, 2, 2, []uint64{1, 1, 2, 3}, api.OK},      // the first number of the row has none, that of what is left has
		{4, 2, 1, []uint64{2, 1}, api.ErrZero},       // the other way round it would go
		{4, 2, 1, []uint64{1, 2}, api.OK},
		{6, 1, 1, []uint64{3}, api.ErrZero},
		{6, 1, 1, []uint64{5}, api.OK},
		{greatest, 1, 1, []uint64{649657}, api.ErrZero},
		{greatest, 1, 1, []uint64{2}, api.OK},
	} {
		m := api.Mat{Rows: c.rows, Cols: c.cols, Cells: c.cells}
		if c.e != api.OK {
			refused(t, c.p, m, c.e, detError(m, c.e))
			continue
		}
		take(t, c.p, m)
		asked(t, c.p, m)
	}
	refused(t, 4, api.Mat{Rows: 2, Cols: 1, Cells: []uint64{2, 4}}, api.ErrArg, api.ErrArg)
}

func TestP7_2Make(t *testing.T) {
	d := dice(4)
	for _, p := range append(primes(), others()...) {
		for _, sh := range shapes() {
			for _, many := range []int{0, 1, 2, 3, 7, 64, 65} {
				made(t, &d, p, sh, many)
			}
		}
	}
	for _, p := range []uint64{2, bigPrime, greatest} {
		made(t, &d, p, shape{64, 64}, 64)
		made(t, &d, p, shape{2, 3}, 5000)
	}
}

// made asks for the matrix of any C and U, of any many rows; what Rows and Cols are isn't asked.
func made(t *testing.T, d *dice, p uint64, sh shape, many int) {
	t.Helper()
	var c api.Cup
	for range sh.rows {
		c.C = append(c.C, d.list(p, many))
	}
	for range many {
		c.U = append(c.U, d.list(p, sh.cols))
	}
	want := api.Mat{Rows: sh.rows, Cols: sh.cols, Cells: sums(p, c.C, c.U, sh.cols)}
	for _, l := range [][]int{nil, {0}, {-1, math.MaxInt}, make([]int, 300)} {
		c.Rows, c.Cols = l, l
		if m, e := cup.Make(p, c, sh.rows, sh.cols); e != api.OK || !sameMat(m, want) {
			t.Fatalf("Make(%d, %v, %d, %d): %v, %d, not %v", p, c, sh.rows, sh.cols, m, e, want)
		}
	}
}

func TestP7_2MakeKnown(t *testing.T) {
	c := api.Cup{C: [][]uint64{{1, 0}, {2, 3}, {0, 6}}, U: [][]uint64{{1, 2}, {3, 4}}}
	if m, e := cup.Make(7, c, 3, 2); e != api.OK || !sameMat(m, api.Mat{Rows: 3, Cols: 2, Cells: []uint64{1, 2, 4, 2, 4, 3}}) {
		t.Error(m, e)
	}
	none := api.Cup{C: [][]uint64{nil, {}}}
	if m, e := cup.Make(7, none, 2, 3); e != api.OK || !sameMat(m, api.Mat{Rows: 2, Cols: 3, Cells: make([]uint64, 6)}) {
		t.Error(m, e)
	}
}

func TestP7_2MakeWrong(t *testing.T) {
	unmade := func(p uint64, c api.Cup, rows, cols int) {
		t.Helper()
		if m, e := cup.Make(p, c, rows, cols); e != api.ErrArg || !noMat(m) {
			t.Errorf("Make(%d, %v, %d, %d): %v, %d", p, c, rows, cols, m, e)
		}
	}
	right := api.Cup{Rows: []int{0, 1}, Cols: []int{0, 1}, C: [][]uint64{{1, 0}, {2, 1}, {3, 6}}, U: [][]uint64{{1, 2}, {0, 4}}}
	if _, e := cup.Make(7, right, 3, 2); e != api.OK {
		t.Fatal(e)
	}
	for _, p := range append(wrongModuli(), 2, 3, 6) {
		unmade(p, right, 3, 2)
	}
	for _, n := range []int{1, 2, 4, 64} {
		unmade(7, right, n, 2)
	}
	for _, n := range []int{1, 3, 64} {
		unmade(7, right, 3, n)
	}
	for _, n := range wrongSides() {
		many := max(0, min(n, 100))
		unmade(7, right, n, 2)
		unmade(7, right, 3, n)
		unmade(7, api.Cup{}, n, n)
		unmade(7, api.Cup{C: make([][]uint64, many)}, n, 1)
		unmade(7, api.Cup{C: make([][]uint64, 1)}, 1, n)
		unmade(7, api.Cup{C: [][]uint64{{1}}, U: [][]uint64{make([]uint64, many)}}, 1, n)
	}
	with := func(c, u [][]uint64) api.Cup { return api.Cup{Rows: right.Rows, Cols: right.Cols, C: c, U: u} }
	for _, c := range [][][]uint64{
		nil, {}, {nil, nil, nil}, {{1, 0}, {2, 1}}, {{1, 0}, {2, 1}, {3, 6}, {0, 0}},
		{{1, 0}, {2, 1}, {3}}, {{1, 0}, {2, 1}, {3, 6, 0}}, {{1}, {2, 1}, {3, 6}}, {{1, 0}, nil, {3, 6}}, {{1, 0}, {2, 1, 0}, {3, 6}},
		{{1, 0}, {2, 1}, {3, 7}}, {{7, 0}, {2, 1}, {3, 6}}, {{1, 0}, {2, wholeWord}, {3, 6}},
	} {
		unmade(7, with(c, right.U), 3, 2)
	}
	for _, u := range [][][]uint64{
		nil, {}, {nil, nil}, {{1, 2}}, {{1, 2}, {0, 4}, {0, 0}},
		{{1, 2}, {0}}, {{1, 2}, {0, 4, 0}}, {{1}, {0, 4}}, {{1, 2, 3}, {0, 4}}, {nil, {0, 4}},
		{{1, 2}, {0, 7}}, {{8, 2}, {0, 4}}, {{1, 2}, {wholeWord, 4}},
	} {
		unmade(7, with(right.C, u), 3, 2)
	}
	// Without a row of U there is no number to tell that p may not be.
	for _, p := range wrongModuli() {
		unmade(p, api.Cup{C: [][]uint64{nil}}, 1, 1)
		unmade(p, api.Cup{C: make([][]uint64, 64)}, 64, 64)
	}
	unmade(7, api.Cup{}, 0, 0)
	unmade(7, api.Cup{}, 1, 1)
	unmade(7, api.Cup{C: [][]uint64{{1}}}, 1, 1)
}

func TestP7_2Minor(t *testing.T) {
	// The second row finds the first column: of the minor, the columns rise all the same.
	m := api.Mat{Rows: 4, Cols: 4, Cells: []uint64{0, 0, 2, 4, 0, 0, 1, 2, 3, 1, 0, 1, 0, 0, 0, 5}}
	if n := minor(t, 7, m); !sameMat(n, api.Mat{Rows: 3, Cols: 3, Cells: []uint64{0, 2, 4, 3, 0, 1, 0, 0, 5}}) {
		t.Error(n)
	}
	if n := minor(t, 2, api.Mat{Rows: 1, Cols: 1, Cells: []uint64{1}}); !sameMat(n, api.Mat{Rows: 1, Cols: 1, Cells: []uint64{1}}) {
		t.Error(n)
	}
	d := dice(5)
	for _, sh := range append(shapes(), shape{64, 64}) {
		for _, p := range append(primes(), others()...) {
			if n, e := cup.Minor(p, d.poor(p, sh.rows, sh.cols, 0)); e != api.ErrNone || !noMat(n) {
				t.Errorf("Minor(%d) of noughts: %v, %d", p, n, e)
			}
		}
	}
}

func TestP7_3Made(t *testing.T) {
	d := dice(6)
	for _, p := range append(primes(), others()...) {
		for _, m := range d.mats(p) {
			c, e := cup.Take(p, m)
			if e != api.OK && slices.Contains(others(), p) {
				continue
			}
			if n, e := cup.Make(p, c, m.Rows, m.Cols); e != api.OK || !sameMat(n, m) {
				t.Fatalf("Make(%d) of %v: %v, %d", p, m, n, e)
			}
			hasShape(t, m, c)
		}
	}
}

// hasShape holds what a matrix was taken apart into against what makes that the only one.
func hasShape(t *testing.T, m api.Mat, c api.Cup) {
	t.Helper()
	if len(c.Cols) != len(c.Rows) || len(c.U) != len(c.Rows) || len(c.C) != m.Rows {
		t.Fatalf("%v: %v", m, c)
	}
	for k, column := range c.Cols {
		for j, x := range c.U[k] {
			if x != 0 && (j < column || slices.Contains(c.Cols[:k], j)) || x == 0 && j == column {
				t.Fatalf("%v: %v: U's row %d", m, c, k)
			}
		}
		for i, taken := range c.C {
			if len(taken) != len(c.Rows) || i < c.Rows[k] && taken[k] != 0 || i == c.Rows[k] && taken[k] != 1 {
				t.Fatalf("%v: %v: C's row %d", m, c, i)
			}
		}
	}
}

func TestP7_3Turned(t *testing.T) {
	d := dice(7)
	for _, p := range primes() {
		for _, m := range d.mats(p) {
			if r, u := rank(t, p, m), rank(t, p, turned(m)); r != u {
				t.Fatalf("modulo %d, %v: %d, turned %d", p, m, r, u)
			}
			if m.Rows == m.Cols && det(t, p, m) != det(t, p, turned(m)) {
				t.Fatalf("modulo %d, %v: the determinant of the turned one is another", p, m)
			}
		}
	}
	for _, p := range []uint64{2, 3} {
		for _, m := range all([]uint64{0, 1}, 3, 4) {
			if r, u := rank(t, p, m), rank(t, p, turned(m)); r != u {
				t.Fatalf("modulo %d, %v: %d, turned %d", p, m, r, u)
			}
		}
	}
}

// isMade tries each sum of rows: is one of them the row i?
func isMade(p uint64, m api.Mat, i int) bool {
	sum := make([]uint64, m.Cols)
	var try func(k int) bool
	try = func(k int) bool {
		if k == i {
			return slices.Equal(sum, row(m, i))
		}
		made := false
		for range p {
			made = made || try(k+1)
			for j, x := range row(m, k) {
				sum[j] = (sum[j] + x) % p
			}
		}
		return made
	}
	return try(0)
}

func TestP7_3Counts(t *testing.T) {
	counts := func(p uint64, m api.Mat) {
		t.Helper()
		l := profile(t, p, m)
		for i := range m.Rows {
			if slices.Contains(l, i) == isMade(p, m, i) {
				t.Fatalf("Profile(%d, %v): %v, but row %d", p, m, l, i)
			}
		}
	}
	for _, m := range slices.Concat(all(upTo(2), 4, 3), all(upTo(2), 3, 3), all(upTo(2), 5, 1)) {
		counts(2, m)
	}
	for _, m := range slices.Concat(all(upTo(3), 3, 2), all(upTo(3), 2, 3)) {
		counts(3, m)
	}
	d := dice(8)
	for _, p := range []uint64{2, 3, 5} {
		for range 50 {
			counts(p, d.poor(p, 5, 6, 3))
		}
	}
	// The first rows' rank grows with each row that counts, and with no other one.
	for _, p := range primes() {
		m := d.poor(p, 12, 9, 6)
		l := profile(t, p, m)
		for i := range m.Rows {
			many := slices.IndexFunc(append(l, m.Rows), func(x int) bool { return x > i })
			if r := slowRank(p, head(m, i+1)); r != many {
				t.Fatalf("Profile(%d, %v): %v, but the rank of the rows to %d is %d", p, m, l, i, r)
			}
		}
	}
}

func TestP7_3Product(t *testing.T) {
	products := func(p uint64, a, b api.Mat) {
		t.Helper()
		c := product(p, a, b)
		x := new(big.Int).Mul(word(det(t, p, a)), word(det(t, p, b)))
		if det(t, p, c) != reduced(p, x) {
			t.Fatalf("modulo %d, the determinant of %v times %v", p, a, b)
		}
		if r := rank(t, p, c); r > rank(t, p, a) || r > rank(t, p, b) {
			t.Fatalf("modulo %d, the rank of %v times %v: %d", p, a, b, r)
		}
	}
	for _, a := range all(upTo(3), 2, 2) {
		for _, b := range all(upTo(3), 2, 2) {
			products(3, a, b)
		}
	}
	d := dice(9)
	for _, p := range primes() {
		for n := 1; n <= 16; n++ {
			products(p, d.mat(p, n, n), d.mat(p, n, n))
			products(p, d.mat(p, n, n), d.turnedAbout(p, n))
			products(p, d.poor(p, n, n, n-1), d.mat(p, n, n))
		}
		products(p, d.mat(p, 64, 64), d.mat(p, 64, 64))
	}
}

func TestP7_3Minor(t *testing.T) {
	d := dice(10)
	for _, p := range primes() {
		for _, m := range d.mats(p) {
			if rank(t, p, m) == 0 {
				continue
			}
			n := minor(t, p, m)
			if n.Rows != rank(t, p, m) || n.Cols != n.Rows || det(t, p, n) == 0 {
				t.Fatalf("Minor(%d, %v): %v", p, m, n)
			}
		}
	}
}

// roomy is a copy with spare room behind it, filled with a mark.
func roomy[T any](l []T, fill T) []T {
	room := append(slices.Clone(l), slices.Repeat([]T{fill}, 80)...)
	return room[:len(l)]
}

func untouched[T comparable](room, l []T, fill T) bool {
	all := room[:len(l)+80]
	return slices.Equal(all[:len(l)], l) && !slices.ContainsFunc(all[len(l):], func(x T) bool { return x != fill })
}

func spoil[T any](answer []T, fill T) {
	answer = answer[:cap(answer)]
	for i := range answer {
		answer[i] = fill
	}
}

func spoilLists(l [][]uint64) {
	for _, x := range l {
		spoil(x, wholeWord)
	}
	spoil(l, nil)
}

// A matrix that is handed in isn't changed, nor its spare room, and an answer shares nothing with it.
func TestMatMemory(t *testing.T) {
	d := dice(11)
	for _, p := range []uint64{2, 7, 4, bigPrime} {
		for _, m := range d.mats(p) {
			for i, call := range []func(m api.Mat){
				func(m api.Mat) {
					c, _ := cup.Take(p, m)
					spoil(c.Rows, mark)
					spoil(c.Cols, mark)
					spoilLists(c.C)
					spoilLists(c.U)
				},
				func(m api.Mat) { cup.Rank(p, m); cup.Det(p, m) },
				func(m api.Mat) { l, _ := cup.Profile(p, m); spoil(l, mark) },
				func(m api.Mat) { n, _ := cup.Minor(p, m); spoil(n.Cells, wholeWord) },
			} {
				cells := roomy(m.Cells, wholeWord)
				call(api.Mat{Rows: m.Rows, Cols: m.Cols, Cells: cells})
				if !untouched(cells, m.Cells, wholeWord) {
					t.Fatalf("call %d changes what it is given, or shares with it: %v", i, m)
				}
			}
		}
	}
}

// What Make is given isn't changed, and what it makes shares nothing with it.
func TestCupMemory(t *testing.T) {
	d := dice(12)
	for _, p := range []uint64{2, 7, bigPrime} {
		for _, m := range d.mats(p) {
			whole := take(t, p, m)
			c := api.Cup{Rows: roomy(whole.Rows, mark), Cols: roomy(whole.Cols, mark)}
			for _, l := range whole.C {
				c.C = append(c.C, roomy(l, wholeWord))
			}
			for _, l := range whole.U {
				c.U = append(c.U, roomy(l, wholeWord))
			}
			made, _ := cup.Make(p, c, m.Rows, m.Cols)
			spoil(made.Cells, wholeWord)
			if !untouched(c.Rows, whole.Rows, mark) || !untouched(c.Cols, whole.Cols, mark) {
				t.Fatalf("Make(%d, %v) changes Rows or Cols", p, whole)
			}
			for i, l := range slices.Concat(whole.C, whole.U) {
				if !untouched(slices.Concat(c.C, c.U)[i], l, wholeWord) {
					t.Fatalf("Make(%d, %v) changes a list, or shares with it", p, whole)
				}
			}
		}
	}
}

// No two lists of what a matrix is taken apart into share memory, nor two answers.
func TestListsMemory(t *testing.T) {
	d := dice(13)
	for _, p := range []uint64{2, 7, bigPrime} {
		for _, m := range []api.Mat{d.mat(p, 1, 1), d.mat(p, 5, 9), d.mat(p, 9, 5), d.poor(p, 9, 9, 4), d.poor(p, 4, 4, 0), d.turnedAbout(p, 12)} {
			want := take(t, p, m)
			many := len(want.C) + len(want.U)
			for i := range many {
				c := take(t, p, m)
				lists := slices.Concat(c.C, c.U)
				spoil(lists[i], wholeWord)
				for j, l := range slices.Concat(want.C, want.U) {
					if j != i && !slices.Equal(lists[j], l) {
						t.Fatalf("Take(%d, %v): lists %d and %d share", p, m, i, j)
					}
				}
			}
			c := take(t, p, m)
			spoil(c.Rows, mark)
			if !slices.Equal(c.Cols, want.Cols) {
				t.Fatalf("Take(%d, %v): Rows and Cols share", p, m)
			}
			spoil(c.Cols, mark)
			spoil(c.C, nil)
			if !sameLists(c.U, want.U) || !sameCup(take(t, p, m), want) {
				t.Fatalf("Take(%d, %v): C and U share, or two answers", p, m)
			}
		}
	}
}
