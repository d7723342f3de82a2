package shape_test

import (
	"math"
	"math/bits"
	"slices"
	"testing"

	"affidavit/api"
	"affidavit/cup"
	"affidavit/shape"
)

const (
	greatest  = math.MaxInt64 // the greatest modulus: 7 * 7 * 73 * 127 * 337 * 92737 * 649657
	bigPrime  = greatest - 24 // the greatest prime below it
	beyond    = api.MostPrime // the least that is too great
	mersenne  = 1<<61 - 1     // a prime
	halfWord  = 1<<32 - 5     // the greatest prime of 32 bits
	wholeWord = math.MaxUint64
	mark      = -99 // in spare room
)

func primes() []uint64 { return []uint64{2, 3, 5, 7, 101, 65537, halfWord, mersenne, bigPrime} }

func others() []uint64 { return []uint64{4, 6, 9, 15, 1 << 32, greatest - 1, greatest} }

func wrongModuli() []uint64 {
	return []uint64{0, 1, beyond, beyond + 1, beyond + 25, wholeWord}
}

func wrongSides() []int {
	return []int{0, -1, 65, 66, -64, math.MinInt, math.MaxInt, 1 << 32, 1<<32 + 1, 1 << 62}
}

// dice makes numbers that look like chance and are the same each time.
type dice uint64

func (d *dice) word() uint64 {
	*d ^= *d << 13
	*d ^= *d >> 7
	*d ^= *d << 17
	return uint64(*d)
}

func (d *dice) below(n int) int { return int(d.word() % uint64(n)) }

// list of just so many numbers, noughts and the greatest now and then.
func (d *dice) list(p uint64, many int) []uint64 {
	l := make([]uint64, many)
	for i := range l {
		switch d.word() % 6 {
		case 0:
		case 1:
			l[i] = p - 1
		default:
			l[i] = d.word() % p
		}
	}
	return l
}

// order of n, as a list of the numbers below it.
func (d *dice) order(n int) []int {
	var l []int
	for i := range n {
		l = slices.Insert(l, d.below(i+1), i)
	}
	return l
}

// claim of the shape, of so many Rows: built from the chapter's words, place by place, not by taking a matrix apart.
func (d *dice) claim(p uint64, rows, cols, many int) api.Cup {
	c := api.Cup{Rows: d.order(rows)[:many], Cols: d.order(cols)[:many]}
	slices.Sort(c.Rows)
	for i := range rows {
		taken := d.list(p, many)
		for k, row := range c.Rows {
			switch {
			case i < row:
				taken[k] = 0
			case i == row:
				taken[k] = 1
			}
		}
		c.C = append(c.C, taken)
	}
	for k, column := range c.Cols {
		rest := d.list(p, cols)
		clear(rest[:column])
		for _, ahead := range c.Cols[:k] {
			rest[ahead] = 0
		}
		rest[column] = 1 + d.word()%(p-1)
		c.U = append(c.U, rest)
	}
	return c
}

func shapes() [][2]int {
	return [][2]int{{1, 1}, {1, 2}, {2, 1}, {2, 2}, {3, 2}, {2, 3}, {4, 4}, {5, 9}, {9, 5}, {12, 12}, {1, 64}, {64, 1}, {64, 64}, {63, 64}}
}

// overClaims goes over claims of the shape, of primes and of others.
func overClaims(f func(p uint64, c api.Cup, rows, cols int, d *dice)) {
	d := dice(13)
	for _, p := range append(primes(), others()...) {
		for _, s := range shapes() {
			least := min(s[0], s[1])
			for _, many := range []int{0, 1, d.below(least + 1), least - 1, least} {
				f(p, d.claim(p, s[0], s[1], many), s[0], s[1], &d)
			}
		}
	}
}

func copied(c api.Cup) api.Cup {
	n := api.Cup{Rows: slices.Clone(c.Rows), Cols: slices.Clone(c.Cols)}
	for _, l := range c.C {
		n.C = append(n.C, slices.Clone(l))
	}
	for _, l := range c.U {
		n.U = append(n.U, slices.Clone(l))
	}
	return n
}

func sameLists(a, b [][]uint64) bool { return slices.EqualFunc(a, b, slices.Equal) }

func sameCup(a, b api.Cup) bool {
	return slices.Equal(a.Rows, b.Rows) && slices.Equal(a.Cols, b.Cols) && sameLists(a.C, b.C) && sameLists(a.U, b.U)
}

func noCup(c api.Cup) bool {
	return len(c.Rows) == 0 && len(c.Cols) == 0 && len(c.C) == 0 && len(c.U) == 0
}

// allLists of so many numbers below most.
func allLists(most uint64, many int) [][]uint64 {
	lists := [][]uint64{nil}
	for range many {
		var longer [][]uint64
		for _, l := range lists {
			for x := range most {
				longer = append(longer, append(slices.Clone(l), x))
			}
		}
		lists = longer
	}
	return lists
}

// The slow ways: by products of two words and what is left of them, number by number.

func mul(p, a, b uint64) uint64 {
	high, low := bits.Mul64(a, b)
	return bits.Rem64(high, low, p)
}

// sum of two numbers below 2^63.
func sum(p, a, b uint64) uint64 { return (a + b) % p }

func dot(p uint64, a, b []uint64) uint64 {
	var s uint64
	for i := range a {
		s = sum(p, s, mul(p, a[i], b[i]))
	}
	return s
}

func dots(p uint64, lists [][]uint64, x []uint64) []uint64 {
	var y []uint64
	for _, l := range lists {
		y = append(y, dot(p, l, x))
	}
	return y
}

func times(p uint64, m api.Mat, x []uint64) []uint64 {
	return dots(p, slices.Collect(slices.Chunk(m.Cells, m.Cols)), x)
}

// made of a claim: that often each rest, for each row.
func made(p uint64, c api.Cup, cols int) api.Mat {
	m := api.Mat{Rows: len(c.C), Cols: cols}
	for _, taken := range c.C {
		row := make([]uint64, cols)
		for k, often := range taken {
			for j, x := range c.U[k] {
				row[j] = sum(p, row[j], mul(p, often, x))
			}
		}
		m.Cells = append(m.Cells, row...)
	}
	return m
}

func right(n int) bool { return n >= 1 && n <= 64 }

// below: are these numbers of p?
func below(p uint64, l []uint64) bool {
	return !slices.ContainsFunc(l, func(x uint64) bool { return x >= p })
}

// slowFits: as many lists, of as many numbers each.
func slowFits(c api.Cup, rows, cols int) bool {
	ok := len(c.C) == rows && len(c.U) == len(c.Rows)
	for _, l := range c.C {
		ok = ok && len(l) == len(c.Rows)
	}
	for _, l := range c.U {
		ok = ok && len(l) == cols
	}
	return ok
}

// slowHas goes through the chapter's words, one behind the other.
func slowHas(p uint64, c api.Cup, rows, cols int) bool {
	if p < 2 || p >= beyond || !right(rows) || !right(cols) || len(c.Rows) > rows || len(c.Rows) > cols || len(c.Cols) != len(c.Rows) || !slowFits(c, rows, cols) {
		return false
	}
	for k, row := range c.Rows {
		if row < 0 || row >= rows || k > 0 && row <= c.Rows[k-1] {
			return false
		}
	}
	for k, column := range c.Cols {
		if column < 0 || column >= cols || slices.Contains(c.Cols[:k], column) {
			return false
		}
	}
	for _, l := range slices.Concat(c.C, c.U) {
		if !below(p, l) {
			return false
		}
	}
	for k, column := range c.Cols {
		for j, x := range c.U[k] {
			if x == 0 && j == column || x != 0 && (j < column || slices.Contains(c.Cols[:k], j)) {
				return false
			}
		}
		for i, l := range c.C {
			if i < c.Rows[k] && l[k] != 0 || i == c.Rows[k] && l[k] != 1 {
				return false
			}
		}
	}
	return true
}

func hasHolds(t *testing.T, p uint64, c api.Cup, rows, cols int) bool {
	t.Helper()
	has := shape.Has(p, c, rows, cols)
	if has != slowHas(p, c, rows, cols) {
		t.Fatalf("Has(%d, %v, %d, %d): %v", p, c, rows, cols, has)
	}
	return has
}

func known() (api.Mat, api.Cup) {
	m := api.Mat{Rows: 4, Cols: 3, Cells: []uint64{0, 2, 4, 0, 4, 1, 3, 0, 1, 3, 2, 5}}
	return m, api.Cup{
		Rows: []int{0, 2}, Cols: []int{1, 0},
		C: [][]uint64{{1, 0}, {2, 0}, {0, 1}, {1, 1}},
		U: [][]uint64{{0, 2, 4}, {3, 0, 1}},
	}
}

func TestP13_1HasKnown(t *testing.T) {
	if !shape.Has(7, api.Cup{Rows: []int{0}, Cols: []int{1}, C: [][]uint64{{1}}, U: [][]uint64{{0, 2}}}, 1, 2) {
		t.Error("the chapter's example hasn't the shape")
	}
	_, c := known()
	if !shape.Has(7, c, 4, 3) || !shape.Has(5, c, 4, 3) || shape.Has(4, c, 4, 3) {
		t.Error("modulo 7 and 5 it has the shape, modulo 4 it hasn't, for its 4")
	}
	if shape.Has(7, c, 3, 3) || shape.Has(7, c, 5, 3) || shape.Has(7, c, 4, 2) || shape.Has(7, c, 4, 4) || shape.Has(7, c, 3, 4) {
		t.Error("it is of 4 rows and 3 columns")
	}
	// A number without an Inv may stand where a rest begins: whether p is prime isn't asked.
	if !shape.Has(4, api.Cup{Rows: []int{0}, Cols: []int{0}, C: [][]uint64{{1}}, U: [][]uint64{{2}}}, 1, 1) {
		t.Error("2 isn't 0 modulo 4")
	}
}

// No row counts: each row of C has its numbers, none.
func TestP13_1HasNone(t *testing.T) {
	for _, n := range []int{1, 2, 64} {
		c := api.Cup{C: make([][]uint64, n)}
		for cols := 1; cols <= 64; cols++ {
			if !shape.Has(7, c, n, cols) {
				t.Errorf("of %d rows and %d columns", n, cols)
			}
		}
		c.C[n-1] = []uint64{0}
		if shape.Has(7, c, n, 1) || shape.Has(7, api.Cup{C: make([][]uint64, n)}, n+1, 1) || shape.Has(7, api.Cup{C: make([][]uint64, n)}, n-1, 1) {
			t.Errorf("of %d rows: C isn't as it must be", n)
		}
	}
	if shape.Has(7, api.Cup{}, 1, 1) || shape.Has(7, api.Cup{}, 0, 0) || shape.Has(7, api.Cup{}, 0, 1) {
		t.Error("C has no rows")
	}
	if shape.Has(7, api.Cup{Cols: []int{0}, C: [][]uint64{{}}}, 1, 1) || shape.Has(7, api.Cup{U: [][]uint64{{0}}, C: [][]uint64{{}}}, 1, 1) {
		t.Error("a column, or a rest, of no row")
	}
}

// someClaims: all with so many names, from -1 on to one too great, and numbers below most, right or not.
func someClaims(most uint64, rows, cols, many int, f func(c api.Cup)) {
	named := func(l []uint64) []int {
		var names []int
		for _, x := range l {
			names = append(names, int(x)-1)
		}
		return names
	}
	split := func(l []uint64, many, long int) [][]uint64 {
		var lists [][]uint64
		for i := range many {
			lists = append(lists, l[i*long:(i+1)*long])
		}
		return lists
	}
	for _, r := range allLists(uint64(rows)+2, many) {
		for _, k := range allLists(uint64(cols)+2, many) {
			for _, l := range allLists(most, many*(rows+cols)) {
				f(api.Cup{Rows: named(r), Cols: named(k), C: split(l, rows, many), U: split(l[rows*many:], many, cols)})
			}
		}
	}
}

// All claims of few numbers, modulo primes and others. Of a prime, there are as many of the shape as matrices (P13.3).
func TestP13_1HasAll(t *testing.T) {
	for _, c := range []struct {
		p          uint64
		most       uint64
		rows, cols int
	}{{2, 3, 1, 1}, {2, 3, 1, 2}, {2, 3, 2, 1}, {2, 2, 2, 2}, {2, 3, 3, 1}, {2, 3, 1, 3}, {3, 4, 1, 2}, {3, 4, 2, 1}, {3, 3, 1, 3}, {4, 5, 1, 2}, {4, 4, 2, 1}, {6, 7, 1, 1}} {
		have, mats := 0, 1
		for many := range 3 {
			someClaims(c.most, c.rows, c.cols, many, func(k api.Cup) {
				if hasHolds(t, c.p, k, c.rows, c.cols) {
					have++
				}
			})
		}
		for range c.rows * c.cols {
			mats *= int(c.p)
		}
		if have != mats {
			t.Errorf("modulo %d, of %d rows and %d columns: %d claims have the shape, of %d matrices", c.p, c.rows, c.cols, have, mats)
		}
	}
}

func TestP13_1HasBuilt(t *testing.T) {
	overClaims(func(p uint64, c api.Cup, rows, cols int, d *dice) {
		if !hasHolds(t, p, c, rows, cols) {
			t.Fatalf("modulo %d, of %d rows and %d columns: %v", p, rows, cols, c)
		}
		for _, s := range [][2]int{{rows - 1, cols}, {rows + 1, cols}, {rows, cols - 1}, {rows, cols + 1}, {0, 0}} {
			hasHolds(t, p, c, s[0], s[1])
		}
	})
}

// Each number and each name of a claim is changed for others, one by one.
func TestP13_1HasChanged(t *testing.T) {
	d := dice(2)
	for _, p := range []uint64{2, 3, 4, 7, greatest, bigPrime} {
		for _, s := range [][3]int{{1, 1, 1}, {2, 2, 1}, {2, 2, 2}, {3, 4, 2}, {4, 3, 3}, {5, 5, 4}, {64, 64, 64}} {
			c := d.claim(p, s[0], s[1], s[2])
			for _, names := range [][]int{c.Rows, c.Cols} {
				for i := range names {
					was := names[i]
					for _, name := range []int{-1, 0, 1, 2, 3, 4, was - 1, was + 1, s[0] - 1, s[1] - 1, s[0], s[1], math.MinInt, math.MaxInt, was + 1<<32, was - 1<<32} {
						names[i] = name
						hasHolds(t, p, c, s[0], s[1])
					}
					names[i] = was
				}
			}
			for _, l := range slices.Concat(c.C, c.U) {
				for i, was := range l {
					if s[0] == 64 && d.below(50) > 0 {
						continue // some of the greatest will do
					}
					for _, x := range []uint64{0, 1, 2, p - 1, p, p + 1, was ^ 1, beyond, wholeWord} {
						l[i] = x
						hasHolds(t, p, c, s[0], s[1])
					}
					l[i] = was
				}
			}
			if !hasHolds(t, p, c, s[0], s[1]) {
				t.Fatal("it isn't as it was")
			}
		}
	}
}

// resized copies: of each list of a claim, one shorter and one longer, and two that are changed about.
func resized(c api.Cup) []api.Cup {
	var l []api.Cup
	change := func(do func(n *api.Cup)) {
		n := copied(c)
		do(&n)
		l = append(l, n)
	}
	change(func(n *api.Cup) { n.Rows = n.Rows[:len(n.Rows)-1] })
	change(func(n *api.Cup) { n.Cols = n.Cols[:len(n.Cols)-1] })
	change(func(n *api.Cup) { n.C = n.C[:len(n.C)-1] })
	change(func(n *api.Cup) { n.U = n.U[:len(n.U)-1] })
	change(func(n *api.Cup) { n.Rows = append(n.Rows, len(n.C)-1) })
	change(func(n *api.Cup) { n.Cols = append(n.Cols, 0) })
	change(func(n *api.Cup) { n.C = append(n.C, make([]uint64, len(n.Rows))) })
	change(func(n *api.Cup) { n.U = append(n.U, make([]uint64, len(n.U[0]))) })
	change(func(n *api.Cup) { n.Rows = nil })
	change(func(n *api.Cup) { n.Cols = nil })
	change(func(n *api.Cup) { n.C = nil })
	change(func(n *api.Cup) { n.U = nil })
	change(func(n *api.Cup) { n.C, n.U = n.U, n.C })
	change(func(n *api.Cup) { slices.Reverse(n.Rows) })
	change(func(n *api.Cup) { slices.Reverse(n.Cols) })
	change(func(n *api.Cup) { slices.Reverse(n.C) })
	change(func(n *api.Cup) { slices.Reverse(n.U) })
	for i := range c.C {
		change(func(n *api.Cup) { n.C[i] = n.C[i][:len(n.C[i])-1] })
		change(func(n *api.Cup) { n.C[i] = append(n.C[i], 0) })
		change(func(n *api.Cup) { n.C[i] = nil })
	}
	for i := range c.U {
		change(func(n *api.Cup) { n.U[i] = n.U[i][:len(n.U[i])-1] })
		change(func(n *api.Cup) { n.U[i] = append(n.U[i], 0) })
		change(func(n *api.Cup) { n.U[i] = nil })
	}
	// As many of all, but of more rows than there may be.
	change(func(n *api.Cup) {
		for range 70 {
			n.Rows, n.Cols, n.U = append(n.Rows, len(n.Rows)), append(n.Cols, len(n.Cols)), append(n.U, make([]uint64, len(n.U[0])))
		}
		for i := range n.C {
			n.C[i] = make([]uint64, len(n.Rows))
		}
	})
	return l
}

func TestP13_1HasResized(t *testing.T) {
	d := dice(3)
	for _, p := range []uint64{2, 7, bigPrime} {
		for _, s := range [][3]int{{1, 1, 1}, {2, 2, 1}, {2, 2, 2}, {3, 4, 2}, {4, 3, 3}, {64, 64, 64}, {64, 64, 3}} {
			for _, c := range resized(d.claim(p, s[0], s[1], s[2])) {
				hasHolds(t, p, c, s[0], s[1])
			}
		}
	}
}

func TestP13_1HasWrong(t *testing.T) {
	one := api.Cup{Rows: []int{0}, Cols: []int{0}, C: [][]uint64{{1}}, U: [][]uint64{{1}}}
	none := api.Cup{C: [][]uint64{{}}}
	for _, p := range wrongModuli() {
		if shape.Has(p, one, 1, 1) || shape.Has(p, none, 1, 1) {
			t.Errorf("modulo %d", p)
		}
	}
	for _, n := range wrongSides() {
		many := max(0, min(n, 100))
		wide := api.Cup{Rows: []int{0}, Cols: []int{0}, C: [][]uint64{{1}}, U: [][]uint64{append([]uint64{1}, make([]uint64, many)...)[:max(1, many)]}}
		high := api.Cup{Rows: []int{0}, Cols: []int{0}, C: slices.Repeat([][]uint64{{1}}, many), U: [][]uint64{{1}}}
		if shape.Has(7, wide, 1, n) || shape.Has(7, high, n, 1) || shape.Has(7, one, n, n) || shape.Has(7, none, n, n) {
			t.Errorf("of %d rows or columns", n)
		}
		if shape.Has(7, api.Cup{C: make([][]uint64, many)}, n, 1) || shape.Has(7, none, 1, n) || shape.Has(7, api.Cup{}, n, n) {
			t.Errorf("of %d rows or columns, and rank 0", n)
		}
	}
}

func looksHolds(t *testing.T, p uint64, m api.Mat, c api.Cup, x []uint64) bool {
	t.Helper()
	passes, e := shape.Looks(p, m, c, x)
	want := slices.Equal(times(p, m, x), dots(p, c.C, dots(p, c.U, x)))
	if e != api.OK || passes != want {
		t.Fatalf("Looks(%d, %v, %v, %v): %v, %d, not %v", p, m, c, x, passes, e, want)
	}
	return passes
}

// vectors to look with: 0, one of ones, the units, and such as come by chance.
func (d *dice) vectors(p uint64, many int) [][]uint64 {
	l := [][]uint64{make([]uint64, many), slices.Repeat([]uint64{1}, many)}
	for _, i := range []int{0, many / 2, many - 1, d.below(many)} {
		unit := make([]uint64, many)
		unit[i] = 1
		l = append(l, unit)
	}
	return append(l, d.list(p, many), d.list(p, many))
}

func TestP13_1Looks(t *testing.T) {
	overClaims(func(p uint64, c api.Cup, rows, cols int, d *dice) {
		m := made(p, c, cols)
		cell := api.Mat{Rows: rows, Cols: cols, Cells: slices.Clone(m.Cells)}
		at := d.below(len(cell.Cells))
		cell.Cells[at] = sum(p, cell.Cells[at], 1)
		other := api.Mat{Rows: rows, Cols: cols, Cells: d.list(p, rows*cols)}
		unit := make([]uint64, cols)
		unit[at%cols] = 1
		if looksHolds(t, p, cell, c, unit) {
			t.Fatalf("modulo %d, %v doesn't make the number %d of %v", p, c, at, cell)
		}
		for _, x := range d.vectors(p, cols) {
			if !looksHolds(t, p, m, c, x) {
				t.Fatalf("modulo %d, %v makes %v", p, c, m)
			}
			looksHolds(t, p, cell, c, x)
			looksHolds(t, p, other, c, x)
		}
	})
}

// Sums of great numbers' products wrap round, if they aren't taken modulo p on the way.
func TestP13_1LooksGreatest(t *testing.T) {
	for _, p := range []uint64{bigPrime, greatest, greatest - 1} {
		var c api.Cup
		for i := range 64 {
			taken, rest := make([]uint64, 64), make([]uint64, 64)
			for k := range 64 {
				if k < i {
					taken[k] = p - 1
				}
				if k > i {
					rest[k] = p - 1
				}
			}
			taken[i], rest[i] = 1, p-1
			c.Rows, c.Cols, c.C, c.U = append(c.Rows, i), append(c.Cols, i), append(c.C, taken), append(c.U, rest)
		}
		x := slices.Repeat([]uint64{p - 1}, 64)
		m := made(p, c, 64)
		if !looksHolds(t, p, m, c, x) {
			t.Error(p)
		}
		m.Cells[63] = sum(p, m.Cells[63], 1)
		if looksHolds(t, p, m, c, x) {
			t.Error(p)
		}
	}
}

func looksRefused(t *testing.T, p uint64, m api.Mat, c api.Cup, x []uint64) {
	t.Helper()
	if passes, e := shape.Looks(p, m, c, x); passes || e != api.ErrArg {
		t.Fatalf("Looks(%d, %v, %v, %v): %v, %d", p, m, c, x, passes, e)
	}
}

func TestP13_1LooksWrong(t *testing.T) {
	m, c := known()
	for _, x := range [][]uint64{nil, {}, {1}, {1, 1}, {0, 0, 0, 0}, {7, 0, 0}, {0, 7, 0}, {0, 0, 7}, {0, 0, wholeWord}, {beyond, 0, 0}, make([]uint64, 64)} {
		looksRefused(t, 7, m, c, x)
	}
	x := make([]uint64, 3)
	for _, n := range resized(c) {
		looksRefused(t, 7, m, n, x)
	}
	looksRefused(t, 7, m, api.Cup{}, x)
	for _, p := range append(wrongModuli(), 2, 3, 4) {
		looksRefused(t, p, m, c, x)
	}
	for _, cells := range [][]uint64{nil, m.Cells[:11], append(slices.Clone(m.Cells), 0), {7, 0, 0, 0, 0, 0, 0, 0, 0, 0, 0, 0}, {0, 0, 0, 0, 0, 0, 0, 0, 0, 0, 0, wholeWord}} {
		looksRefused(t, 7, api.Mat{Rows: 4, Cols: 3, Cells: cells}, c, x)
	}
	// Right ones, of other sides than the claim's; and such as there are none of.
	for _, s := range [][2]int{{3, 3}, {5, 3}, {3, 4}, {4, 4}, {4, 2}, {2, 6}, {6, 2}, {1, 12}, {12, 1}} {
		looksRefused(t, 7, api.Mat{Rows: s[0], Cols: s[1], Cells: make([]uint64, s[0]*s[1])}, c, make([]uint64, s[1]))
	}
	none := api.Cup{C: [][]uint64{{}}}
	for _, n := range wrongSides() {
		many := max(0, min(n, 100))
		looksRefused(t, 7, api.Mat{Rows: n, Cols: 1, Cells: make([]uint64, many)}, api.Cup{C: make([][]uint64, many)}, []uint64{0})
		looksRefused(t, 7, api.Mat{Rows: 1, Cols: n, Cells: make([]uint64, many)}, none, make([]uint64, many))
		looksRefused(t, 7, api.Mat{Rows: n, Cols: n}, none, nil)
	}
	looksRefused(t, 7, api.Mat{}, api.Cup{}, nil)
}

// slowDet of a claim: the numbers where rests begin, turned as often as two of Cols stand the wrong way round.
func slowDet(p uint64, c api.Cup, n int) uint64 {
	if len(c.Rows) < n {
		return 0
	}
	product := uint64(1)
	for k, column := range c.Cols {
		product = mul(p, product, c.U[k][column])
		for _, ahead := range c.Cols[:k] {
			if ahead > column {
				product = (p - product) % p
			}
		}
	}
	return product
}

func TestP13_1Det(t *testing.T) {
	for _, k := range []struct {
		cells []uint64
		det   uint64
	}{
		{[]uint64{0}, 0}, {[]uint64{5}, 5}, {[]uint64{1, 2, 3, 4}, 5}, {[]uint64{0, 1, 1, 0}, 6}, {[]uint64{0, 2, 3, 4}, 1}, {[]uint64{1, 2, 2, 4}, 0},
		{[]uint64{0, 0, 2, 0, 3, 0, 4, 0, 0}, 4}, {[]uint64{0, 1, 0, 0, 0, 1, 1, 0, 0}, 1},
	} {
		n := int(math.Sqrt(float64(len(k.cells))))
		c, _ := cup.Take(7, api.Mat{Rows: n, Cols: n, Cells: k.cells})
		if x, e := shape.Det(7, c, n); e != api.OK || x != k.det {
			t.Errorf("Det(7, %v): %d, %d, not %d", c, x, e, k.det)
		}
	}
	overClaims(func(p uint64, c api.Cup, rows, cols int, d *dice) {
		if rows != cols {
			return
		}
		x, e := shape.Det(p, c, rows)
		if e != api.OK || x != slowDet(p, c, rows) {
			t.Fatalf("Det(%d, %v, %d): %d, %d, not %d", p, c, rows, x, e, slowDet(p, c, rows))
		}
		if want, e := cup.Det(p, made(p, c, cols)); e == api.OK && x != want {
			t.Fatalf("Det(%d, %v, %d): %d, but of the matrix %d", p, c, rows, x, want)
		}
		if len(c.Rows) == rows && p > 2 {
			clear(c.U[rows-1])
			c.U[rows-1][c.Cols[rows-1]] = p - 1
			if x, e := shape.Det(p, c, rows); e != api.OK || x != slowDet(p, c, rows) {
				t.Fatalf("Det(%d, %v, %d): %d, %d", p, c, rows, x, e)
			}
		}
	})
}

// 2 times 2 is 0 modulo 4, and less than 0 it isn't.
func TestP13_1DetOfNoPrime(t *testing.T) {
	c := api.Cup{Rows: []int{0, 1}, Cols: []int{1, 0}, C: [][]uint64{{1, 0}, {0, 1}}, U: [][]uint64{{0, 2}, {2, 0}}}
	if x, e := shape.Det(4, c, 2); e != api.OK || x != 0 {
		t.Error(x, e)
	}
	if x, e := shape.Det(6, c, 2); e != api.OK || x != 2 {
		t.Error(x, e)
	}
}

func TestP13_1DetWrong(t *testing.T) {
	d := dice(5)
	refused := func(p uint64, c api.Cup, n int) {
		t.Helper()
		if x, e := shape.Det(p, c, n); x != 0 || e != api.ErrArg {
			t.Fatalf("Det(%d, %v, %d): %d, %d", p, c, n, x, e)
		}
	}
	for _, s := range [][2]int{{1, 1}, {2, 1}, {2, 2}, {3, 3}, {3, 2}, {64, 64}} {
		c := d.claim(7, s[0], s[0], s[1])
		for _, n := range append(wrongSides(), s[0]-1, s[0]+1, 2*s[0]) {
			refused(7, c, n)
			refused(7, api.Cup{}, n)
			refused(7, api.Cup{C: make([][]uint64, max(0, min(n, 100)))}, -n)
		}
		for _, p := range wrongModuli() {
			refused(p, c, s[0])
		}
		for _, n := range resized(c) {
			if !slowHas(7, n, s[0], s[0]) {
				refused(7, n, s[0])
			}
		}
		c.U[0][c.Cols[0]] = 7
		refused(7, c, s[0])
		c.U[0][c.Cols[0]] = 0
		refused(7, c, s[0])
	}
	_, c := known()
	refused(7, c, 4)
	refused(7, c, 3)
	refused(7, c, 2)
	for _, n := range []int{65, 0, -1} {
		refused(7, api.Cup{C: make([][]uint64, max(0, n))}, n)
	}
}

func costHolds(t *testing.T, c api.Cup, rows, cols int) {
	t.Helper()
	want := 0
	if right(rows) && right(cols) && slowFits(c, rows, cols) {
		want = rows * cols
		for _, l := range slices.Concat(c.C, c.U) {
			want += len(l)
		}
	}
	if n := shape.Cost(c, rows, cols); n != want {
		t.Fatalf("Cost(%v, %d, %d): %d, not %d", c, rows, cols, n, want)
	}
}

func TestP13_1Cost(t *testing.T) {
	_, c := known()
	if n := shape.Cost(c, 4, 3); n != 12+8+6 {
		t.Error(n)
	}
	if n := shape.Cost(api.Cup{C: make([][]uint64, 5)}, 5, 64); n != 320 {
		t.Error("of rank 0:", n)
	}
	// Only how many there are is asked, not what they are, nor whether the Rows are too many.
	two := api.Cup{Rows: []int{9, -1}, C: [][]uint64{{wholeWord, 0}}, U: [][]uint64{{0}, {0}}}
	if n := shape.Cost(two, 1, 1); n != 5 {
		t.Error(n)
	}
	overClaims(func(_ uint64, c api.Cup, rows, cols int, d *dice) {
		for i := rows - 1; i <= rows+1; i++ {
			for j := cols - 1; j <= cols+1; j++ {
				costHolds(t, c, i, j)
			}
		}
		costHolds(t, c, cols, rows)
		if len(c.Rows) > 0 && rows < 64 {
			for _, n := range resized(c) {
				costHolds(t, n, rows, cols)
			}
		}
	})
	for _, n := range wrongSides() {
		many := max(0, min(n, 100))
		costHolds(t, api.Cup{C: make([][]uint64, many)}, n, 1)
		costHolds(t, api.Cup{C: make([][]uint64, 1)}, 1, n)
		costHolds(t, api.Cup{C: make([][]uint64, many)}, n, n)
		costHolds(t, api.Cup{Rows: []int{0}, C: [][]uint64{{1}}, U: [][]uint64{make([]uint64, many)}}, 1, n)
		costHolds(t, api.Cup{Rows: []int{0}, C: slices.Repeat([][]uint64{{1}}, many), U: [][]uint64{{1}}}, n, 1)
	}
}

func TestP13_2Known(t *testing.T) {
	_, c := known()
	want := []uint64{2, 0, 2, 1, 0, 1, 0, 2, 0, 0, 1, 1, 1, 0, 2, 4, 3, 0, 1}
	if l := shape.Numbers(c); !slices.Equal(l, want) {
		t.Error(l)
	}
	if n, e := shape.Of(want, 4, 3); e != api.OK || !sameCup(n, c) {
		t.Error(n, e)
	}
	if l := shape.Numbers(api.Cup{Rows: []int{0}, Cols: []int{1}, C: [][]uint64{{1}}, U: [][]uint64{{0, 2}}}); !slices.Equal(l, []uint64{1, 0, 1, 1, 0, 2}) {
		t.Error(l)
	}
	// The same numbers are another claim, of other sides.
	l := []uint64{1, 0, 1, 1, 0, 2}
	if n, e := shape.Of(l, 2, 1); e != api.OK || !sameCup(n, api.Cup{Rows: []int{0}, Cols: []int{1}, C: [][]uint64{{1}, {0}}, U: [][]uint64{{2}}}) {
		t.Error(n, e)
	}
	if l := shape.Numbers(api.Cup{}); !slices.Equal(l, []uint64{0}) {
		t.Error(l)
	}
	if n, e := shape.Of([]uint64{0}, 64, 1); e != api.OK || !sameCup(n, api.Cup{C: make([][]uint64, 64)}) {
		t.Error(n, e)
	}
}

// Numbers leaves nothing out, whether it has the shape or not.
func TestP13_2Ragged(t *testing.T) {
	c := api.Cup{Rows: []int{5}, Cols: []int{6, 7, 8}, C: [][]uint64{{1, 2}, nil, {wholeWord}}, U: [][]uint64{{}, {3}, {4, 5}}}
	if l := shape.Numbers(c); !slices.Equal(l, []uint64{1, 5, 6, 7, 8, 1, 2, wholeWord, 3, 4, 5}) {
		t.Error(l)
	}
}

func TestP13_2Back(t *testing.T) {
	overClaims(func(_ uint64, c api.Cup, rows, cols int, d *dice) {
		l := shape.Numbers(c)
		if many := len(c.Rows); len(l) != 1+many*(2+rows+cols) || l[0] != uint64(many) {
			t.Fatalf("Numbers(%v): %v", c, l)
		}
		if n, e := shape.Of(l, rows, cols); e != api.OK || !sameCup(n, c) {
			t.Fatalf("Of(%v, %d, %d): %v, %d", l, rows, cols, n, e)
		}
	})
	// Whether it has the shape isn't asked: any words, and also more Rows than there may be.
	d := dice(6)
	for _, s := range shapes() {
		for _, many := range []int{0, 1, 2, 63, 64} {
			l := []uint64{uint64(many)}
			for range many * (2 + s[0] + s[1]) {
				l = append(l, d.word()>>(d.word()%64))
			}
			c, e := shape.Of(l, s[0], s[1])
			if e != api.OK || len(c.Rows) != many || len(c.Cols) != many || !slowFits(c, s[0], s[1]) {
				t.Fatalf("Of(%v, %d, %d): %v, %d", l, s[0], s[1], c, e)
			}
			if back := shape.Numbers(c); !slices.Equal(back, l) {
				t.Fatalf("Of(%v, %d, %d): %v, which has %v", l, s[0], s[1], c, back)
			}
		}
	}
}

func ofRefused(t *testing.T, l []uint64, rows, cols int) {
	t.Helper()
	if c, e := shape.Of(l, rows, cols); e != api.ErrForm || !noCup(c) {
		t.Errorf("Of(%v, %d, %d): %v, %d", l, rows, cols, c, e)
	}
}

func TestP13_2OfWrong(t *testing.T) {
	for _, s := range shapes() {
		for _, many := range []int{0, 1, 2, 63, 64} {
			long := 1 + many*(2+s[0]+s[1])
			for _, n := range []int{1, 2, long - s[0], long - s[1], long - 2, long - 1, long + 1, long + 2, long + many, 2 * long, 10000} {
				if n < 1 || n == long {
					continue
				}
				l := make([]uint64, n)
				l[0] = uint64(many)
				ofRefused(t, l, s[0], s[1])
			}
			l := make([]uint64, long)
			for _, n := range wrongSides() {
				ofRefused(t, l, n, s[1])
				ofRefused(t, l, s[0], n)
				ofRefused(t, l, n, n)
			}
		}
		ofRefused(t, nil, s[0], s[1])
		for _, many := range []uint64{65, 66, 128, 1 << 31, 1 << 32, 1<<32 + 1, 1 << 62, beyond, beyond + 1, wholeWord} {
			l := []uint64{many}
			ofRefused(t, l, s[0], s[1])
			ofRefused(t, append(l, make([]uint64, 2+s[0]+s[1])...), s[0], s[1])
			ofRefused(t, append(l, make([]uint64, min(many, 200)*uint64(2+s[0]+s[1]))...), s[0], s[1])
		}
	}
	// As many numbers as wrong sides would have.
	ofRefused(t, make([]uint64, 1), 0, 0)
	ofRefused(t, append([]uint64{1}, make([]uint64, 2)...), 0, 0)
	ofRefused(t, append([]uint64{1}, make([]uint64, 3)...), 1, 0)
	ofRefused(t, append([]uint64{1}, make([]uint64, 2+65+1)...), 65, 1)
	ofRefused(t, append([]uint64{1}, make([]uint64, 2+65+1)...), 1, 65)
	ofRefused(t, append([]uint64{1}, make([]uint64, 3)...), 2, -1)
	ofRefused(t, []uint64{1}, -3, 1)
	ofRefused(t, []uint64{1}, -1, -1)
}

// A claim that has the shape, and makes the matrix, is what that is taken apart into; and the other way round.
func TestP13_3Taken(t *testing.T) {
	overClaims(func(p uint64, c api.Cup, rows, cols int, d *dice) {
		m, e := cup.Make(p, c, rows, cols)
		if e != api.OK {
			t.Fatalf("Make(%d, %v, %d, %d): %d", p, c, rows, cols, e)
		}
		if n, e := cup.Take(p, m); slices.Contains(primes(), p) && (e != api.OK || !sameCup(n, c)) {
			t.Fatalf("Take(%d, %v): %v, %d, not %v", p, m, n, e, c)
		}
		m = api.Mat{Rows: rows, Cols: cols, Cells: d.list(p, rows*cols)}
		if n, e := cup.Take(p, m); e == api.OK && !shape.Has(p, n, rows, cols) {
			t.Fatalf("Take(%d, %v) hasn't the shape: %v", p, m, n)
		}
	})
}

// Of little matrices, each claim of the shape is tried with each x: where it doesn't make the matrix, at most one part in p passes.
func TestP13_3All(t *testing.T) {
	for _, s := range [][3]int{{2, 1, 1}, {2, 1, 3}, {2, 2, 2}, {2, 3, 1}, {3, 1, 2}, {3, 2, 1}, {3, 2, 2}, {5, 1, 2}, {7, 1, 1}} {
		p, rows, cols := uint64(s[0]), s[1], s[2]
		var claims []api.Cup
		for _, cells := range allLists(p, rows*cols) {
			c, _ := cup.Take(p, api.Mat{Rows: rows, Cols: cols, Cells: cells})
			claims = append(claims, c)
		}
		all := allLists(p, cols)
		for i, cells := range allLists(p, rows*cols) {
			m := api.Mat{Rows: rows, Cols: cols, Cells: cells}
			for j, c := range claims {
				passed := 0
				for _, x := range all {
					if looksHolds(t, p, m, c, x) {
						passed++
					}
				}
				if i == j && passed != len(all) || i != j && passed*s[0] > len(all) {
					t.Fatalf("modulo %d, of %v, %v: %d of %d pass", p, m, c, passed, len(all))
				}
			}
		}
	}
}

// One part in p of all x, where one number is wrong: so the bound is met.
func TestP13_3Met(t *testing.T) {
	for _, p := range []uint64{2, 3, 7, 101} {
		c := api.Cup{Rows: []int{0}, Cols: []int{0}, C: [][]uint64{{1}}, U: [][]uint64{{1}}}
		passed := 0
		for x := range p {
			if looksHolds(t, p, api.Mat{Rows: 1, Cols: 1, Cells: []uint64{0}}, c, []uint64{x}) {
				passed++
			}
		}
		if passed != 1 {
			t.Errorf("modulo %d: %d pass", p, passed)
		}
	}
}

// roomy is a copy with spare room behind it, filled with a mark.
func roomy[T any](l []T, fill T) []T {
	return append(slices.Clone(l), slices.Repeat([]T{fill}, 80)...)[:len(l)]
}

func untouched[T comparable](room, l []T, fill T) bool {
	all := room[:len(l)+80]
	return slices.Equal(all[:len(l)], l) && !slices.ContainsFunc(all[len(l):], func(x T) bool { return x != fill })
}

func spoil[T any](answer []T, fill T) {
	answer = answer[:cap(answer)]
	for i := range answer {
		answer[i] = fill
	}
}

func roomyCup(c api.Cup) api.Cup {
	n := api.Cup{Rows: roomy(c.Rows, mark), Cols: roomy(c.Cols, mark)}
	for _, l := range c.C {
		n.C = append(n.C, roomy(l, wholeWord))
	}
	for _, l := range c.U {
		n.U = append(n.U, roomy(l, wholeWord))
	}
	n.C, n.U = roomy(n.C, nil), roomy(n.U, nil)
	return n
}

func cupUntouched(room, c api.Cup) bool {
	ok := untouched(room.Rows, c.Rows, mark) && untouched(room.Cols, c.Cols, mark) && len(room.C) == len(c.C) && len(room.U) == len(c.U)
	for i, l := range slices.Concat(c.C, c.U) {
		ok = ok && untouched(slices.Concat(room.C, room.U)[i], l, wholeWord)
	}
	for _, l := range [][][]uint64{room.C, room.U} {
		ok = ok && !slices.ContainsFunc(l[len(l):len(l)+80], func(x []uint64) bool { return x != nil })
	}
	return ok
}

func spoilCup(c api.Cup) {
	for _, l := range slices.Concat(c.C, c.U) {
		spoil(l, 1)
	}
	spoil(c.C, []uint64{1})
	spoil(c.U, []uint64{1})
	spoil(c.Rows, 1)
	spoil(c.Cols, 1)
}

// What is handed in isn't changed, nor its spare room; an answer shares nothing with it, nor with the next one.
func TestMemory(t *testing.T) {
	overClaims(func(p uint64, c api.Cup, rows, cols int, d *dice) {
		m, x, l := made(p, c, cols), d.list(p, cols), shape.Numbers(c)
		room, cells, vector, numbers := roomyCup(c), roomy(m.Cells, wholeWord), roomy(x, wholeWord), roomy(l, wholeWord)
		for range 2 {
			if !shape.Has(p, room, rows, cols) || shape.Cost(room, rows, cols) == 0 {
				t.Fatalf("it isn't as it was: %d, %v", p, c)
			}
			if passes, e := shape.Looks(p, api.Mat{Rows: rows, Cols: cols, Cells: cells}, room, vector); !passes || e != api.OK {
				t.Fatalf("Looks(%d, %v, %v): %v, %d", p, m, c, passes, e)
			}
			shape.Det(p, room, rows)
			told := shape.Numbers(room)
			if !slices.Equal(told, l) {
				t.Fatalf("Numbers(%v): %v", c, told)
			}
			spoil(told, 1)
			n, e := shape.Of(numbers, rows, cols)
			if e != api.OK || !sameCup(n, c) {
				t.Fatalf("Of(%v, %d, %d): %v, %d", l, rows, cols, n, e)
			}
			spoilCup(n)
			if !cupUntouched(room, c) || !untouched(cells, m.Cells, wholeWord) || !untouched(vector, x, wholeWord) || !untouched(numbers, l, wholeWord) {
				t.Fatalf("a call changes what it is given, or shares with it: %d, %v", p, c)
			}
		}
	})
}

// No two lists of a claim that numbers make share memory.
func TestListsMemory(t *testing.T) {
	d := dice(7)
	for _, s := range [][3]int{{1, 1, 1}, {2, 2, 2}, {3, 5, 2}, {5, 3, 3}, {4, 4, 0}, {9, 9, 8}} {
		c := d.claim(101, s[0], s[1], s[2])
		for i := range len(c.C) + len(c.U) {
			n, _ := shape.Of(shape.Numbers(c), s[0], s[1])
			lists := slices.Concat(n.C, n.U)
			spoil(lists[i], wholeWord)
			for j, l := range slices.Concat(c.C, c.U) {
				if j != i && !slices.Equal(lists[j], l) {
					t.Fatalf("%v: lists %d and %d share", c, i, j)
				}
			}
		}
		n, _ := shape.Of(shape.Numbers(c), s[0], s[1])
		spoil(n.Rows, mark)
		if !slices.Equal(n.Cols, c.Cols) {
			t.Fatalf("%v: Rows and Cols share", c)
		}
		spoil(n.C, nil)
		if !sameLists(n.U, c.U) {
			t.Fatalf("%v: C and U share", c)
		}
	}
}
