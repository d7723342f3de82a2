package perm_test

import (
	"math"
	"slices"
	"testing"

	"affidavit/api"
	"affidavit/perm"
)

const (
	wholeWord = math.MaxUint64
	mark      = -99 // in spare room
)

// dice makes numbers that look like chance and are the same each time.
type dice uint64

func (d *dice) word() uint64 {
	*d ^= *d << 13
	*d ^= *d >> 7
	*d ^= *d << 17
	return uint64(*d)
}

func (d *dice) below(n int) int { return int(d.word() % uint64(n)) }

func (d *dice) order(n int) []int {
	p := upTo(n)
	for i := range p {
		j := i + d.below(n-i)
		p[i], p[j] = p[j], p[i]
	}
	return p
}

func (d *dice) list(many int) []uint64 {
	l := make([]uint64, many)
	for i := range l {
		l[i] = d.word()
	}
	return l
}

func (d *dice) mat(rows, cols int) api.Mat {
	return api.Mat{Rows: rows, Cols: cols, Cells: d.list(rows * cols)}
}

func upTo(n int) []int {
	var l []int
	for i := range n {
		l = append(l, i)
	}
	return l
}

// lists of just so many numbers from low to high, all of them.
func lists(low, high, many int) [][]int {
	all := [][]int{nil}
	for range many {
		var longer [][]int
		for _, l := range all {
			for x := low; x <= high; x++ {
				longer = append(longer, append(slices.Clone(l), x))
			}
		}
		all = longer
	}
	return all
}

// orders of n, all of them: n is put in at each place of each one of fewer.
func orders(n int) [][]int {
	if n == 0 {
		return [][]int{nil}
	}
	var all [][]int
	for _, p := range orders(n - 1) {
		for at := range n {
			all = append(all, slices.Insert(slices.Clone(p), at, n-1))
		}
	}
	return all
}

// some orders: all of up to five, and of each greater n one by the dice, the one that turns the list round, and the one by one place.
func some(d *dice) [][]int {
	var l [][]int
	for n := 1; n <= 5; n++ {
		l = append(l, orders(n)...)
	}
	for n := 6; n <= 64; n++ {
		round := upTo(n)
		slices.Reverse(round)
		l = append(l, d.order(n), round, append(upTo(n)[1:], 0))
	}
	return l
}

// wrong lists: no orders.
func wrong() [][]int {
	l := [][]int{
		nil, {}, {1}, {-1}, {2}, {math.MinInt}, {math.MaxInt},
		{0, 0}, {1, 1}, {-1, 0}, {0, -1}, {1, 2}, {2, 1}, {0, 2}, {0, math.MaxInt}, {1, math.MinInt},
		{0, 1, 1}, {1, 0, 1}, {1, 2, 3}, {0, 1, 3}, {-1, 0, 1}, {2, 2, 2}, {0, 1, 2, 2}, {3, 2, 1, 3},
		upTo(65), upTo(66), upTo(1000), make([]int, 64), make([]int, 65), make([]int, 100000),
		append(upTo(63), 64), append(upTo(63), 62), append(upTo(63), 0), append(upTo(63), -1),
	}
	for _, most := range []int{256, 1 << 32} {
		l = append(l, append(upTo(63), 63+most), append(upTo(63), 63-most))
	}
	return l
}

// isOrder from the words of the document alone.
func isOrder(p []int) bool {
	sorted := slices.Clone(p)
	slices.Sort(sorted)
	return len(p) >= 1 && len(p) <= 64 && slices.Equal(sorted, upTo(len(p)))
}

// numbers that tell their places.
func numbers(n int) []uint64 {
	var l []uint64
	for i := range n {
		l = append(l, uint64(1000+i))
	}
	return l
}

// order asks for one where all is well.
func order(t *testing.T, p []int, e api.Errno) []int {
	t.Helper()
	if e != api.OK || !isOrder(p) {
		t.Fatalf("%v, %d", p, e)
	}
	return p
}

func do(t *testing.T, p []int, x []uint64) []uint64 {
	t.Helper()
	y, e := perm.Do(p, x)
	if e != api.OK || len(y) != len(x) {
		t.Fatalf("Do(%v, %v): %v, %d", p, x, y, e)
	}
	return y
}

func then(t *testing.T, p, q []int) []int {
	t.Helper()
	l, e := perm.Then(p, q)
	return order(t, l, e)
}

func back(t *testing.T, p []int) []int {
	t.Helper()
	l, e := perm.Back(p)
	return order(t, l, e)
}

func sign(t *testing.T, p []int) int {
	t.Helper()
	s, e := perm.Sign(p)
	if e != api.OK || s != 1 && s != -1 {
		t.Fatalf("Sign(%v): %d, %d", p, s, e)
	}
	return s
}

func rings(t *testing.T, p []int) [][]int {
	t.Helper()
	l, e := perm.Rings(p)
	if e != api.OK {
		t.Fatalf("Rings(%v): %v, %d", p, l, e)
	}
	return l
}

func noMat(m api.Mat) bool { return m.Rows == 0 && m.Cols == 0 && len(m.Cells) == 0 }

func TestP6_1Right(t *testing.T) {
	for many := range 6 {
		for _, p := range lists(-1, many+1, many) {
			if got := perm.Right(p); got != isOrder(p) {
				t.Errorf("Right(%v): %t", p, got)
			}
		}
	}
	d := dice(1)
	for _, p := range some(&d) {
		if !perm.Right(p) {
			t.Errorf("%v is an order", p)
		}
	}
	for _, p := range wrong() {
		if perm.Right(p) {
			t.Errorf("%v is no order", p)
		}
	}
	// Each number twice, at any place of the longest.
	for i := range 64 {
		for j := range 64 {
			p := upTo(64)
			p[i] = j
			if perm.Right(p) != (i == j) {
				t.Errorf("Right(%v)", p)
			}
		}
	}
}

func TestP6_1One(t *testing.T) {
	for n := 1; n <= 64; n++ {
		if p, e := perm.One(n); e != api.OK || !slices.Equal(p, upTo(n)) {
			t.Errorf("One(%d): %v, %d", n, p, e)
		}
	}
	for _, n := range []int{0, -1, -64, 65, 66, 128, 1 << 32, 1<<32 + 1, 1 << 62, math.MinInt, math.MaxInt} {
		if p, e := perm.One(n); e != api.ErrArg || len(p) != 0 {
			t.Errorf("One(%d): %v, %d", n, p, e)
		}
	}
}

func TestP6_1Do(t *testing.T) {
	d := dice(2)
	for _, p := range some(&d) {
		for _, x := range [][]uint64{numbers(len(p)), d.list(len(p)), make([]uint64, len(p)), slices.Repeat([]uint64{wholeWord}, len(p))} {
			for i, y := range do(t, p, x) {
				if y != x[p[i]] {
					t.Fatalf("Do(%v, %v): %d at %d", p, x, y, i)
				}
			}
		}
	}
}

func TestP6_1Known(t *testing.T) {
	p, q := []int{1, 2, 3, 0}, []int{1, 0, 2, 3}
	if x := do(t, p, []uint64{7, 8, 8, wholeWord}); !slices.Equal(x, []uint64{8, 8, wholeWord, 7}) {
		t.Error(x)
	}
	if l := then(t, p, q); !slices.Equal(l, []int{2, 1, 3, 0}) {
		t.Error(l)
	}
	if l := then(t, q, p); !slices.Equal(l, []int{0, 2, 3, 1}) {
		t.Error(l)
	}
	if l := back(t, p); !slices.Equal(l, []int{3, 0, 1, 2}) {
		t.Error(l)
	}
	if l := then(t, []int{0}, []int{0}); !slices.Equal(l, []int{0}) {
		t.Error(l)
	}
	m := api.Mat{Rows: 3, Cols: 2, Cells: []uint64{1, 2, 3, 4, 5, wholeWord}}
	if n, e := perm.Rows([]int{1, 2, 0}, m); e != api.OK || n.Rows != 3 || n.Cols != 2 || !slices.Equal(n.Cells, []uint64{3, 4, 5, wholeWord, 1, 2}) {
		t.Error(n, e)
	}
}

// thenEach asks for p, and q behind it, and holds it against both, done one behind the other.
func thenEach(t *testing.T, p, q []int) {
	t.Helper()
	x := numbers(len(p))
	if got, want := do(t, then(t, p, q), x), do(t, q, do(t, p, x)); !slices.Equal(got, want) {
		t.Fatalf("Then(%v, %v) makes %v, not %v", p, q, got, want)
	}
}

func TestP6_1Then(t *testing.T) {
	for n := 1; n <= 4; n++ {
		for _, p := range orders(n) {
			for _, q := range orders(n) {
				thenEach(t, p, q)
			}
		}
	}
	d := dice(3)
	for n := 5; n <= 64; n++ {
		for range 5 {
			thenEach(t, d.order(n), d.order(n))
		}
	}
}

func TestP6_1Back(t *testing.T) {
	d := dice(4)
	for _, p := range some(&d) {
		b, one := back(t, p), upTo(len(p))
		for i, place := range p {
			if b[place] != i {
				t.Fatalf("Back(%v): %v", p, b)
			}
		}
		if !slices.Equal(then(t, p, b), one) || !slices.Equal(then(t, b, p), one) {
			t.Fatalf("%v doesn't undo %v", b, p)
		}
		if x := d.list(len(p)); !slices.Equal(do(t, b, do(t, p, x)), x) {
			t.Fatalf("%v doesn't undo %v", b, p)
		}
	}
}

func TestP6_1Rows(t *testing.T) {
	d := dice(5)
	for _, p := range some(&d) {
		for _, cols := range []int{1, 2, 3, 63, 64} {
			m := d.mat(len(p), cols)
			got, e := perm.Rows(p, m)
			if e != api.OK || got.Rows != m.Rows || got.Cols != m.Cols || len(got.Cells) != len(m.Cells) {
				t.Fatalf("Rows(%v, %v): %v, %d", p, m, got, e)
			}
			for i, place := range p {
				if !slices.Equal(got.Cells[i*cols:(i+1)*cols], m.Cells[place*cols:(place+1)*cols]) {
					t.Fatalf("Rows(%v, %v): row %d of %v", p, m, i, got)
				}
			}
		}
	}
}

func TestP6_1Wrong(t *testing.T) {
	for _, p := range wrong() {
		if l, e := perm.Back(p); e != api.ErrArg || len(l) != 0 {
			t.Errorf("Back(%v): %v, %d", p, l, e)
		}
		if s, e := perm.Sign(p); e != api.ErrArg || s != 0 {
			t.Errorf("Sign(%v): %d, %d", p, s, e)
		}
		if l, e := perm.Rings(p); e != api.ErrArg || len(l) != 0 {
			t.Errorf("Rings(%v): %v, %d", p, l, e)
		}
		if x, e := perm.Do(p, make([]uint64, len(p))); e != api.ErrArg || len(x) != 0 {
			t.Errorf("Do(%v): %v, %d", p, x, e)
		}
		if m, e := perm.Rows(p, api.Mat{Rows: len(p), Cols: 2, Cells: make([]uint64, 2*len(p))}); e != api.ErrArg || !noMat(m) {
			t.Errorf("Rows(%v): %v, %d", p, m, e)
		}
		for _, q := range [][]int{p, upTo(len(p)), {0}} {
			if l, e := perm.Then(p, q); e != api.ErrArg || len(l) != 0 {
				t.Errorf("Then(%v, %v): %v, %d", p, q, l, e)
			}
			if l, e := perm.Then(q, p); e != api.ErrArg || len(l) != 0 {
				t.Errorf("Then(%v, %v): %v, %d", q, p, l, e)
			}
		}
	}
}

// An order and what it is done to must be of as many.
func TestP6_1WrongMany(t *testing.T) {
	d := dice(6)
	for n := 1; n <= 64; n++ {
		p := d.order(n)
		for _, many := range []int{0, 1, 2, n - 1, n, n + 1, 2 * n, 64, 65} {
			if many == n {
				continue
			}
			if x, e := perm.Do(p, numbers(many)); e != api.ErrArg || len(x) != 0 {
				t.Errorf("Do(%v), %d numbers: %v, %d", p, many, x, e)
			}
			if m, e := perm.Rows(p, d.mat(many, 3)); e != api.ErrArg || !noMat(m) {
				t.Errorf("Rows(%v), %d rows: %v, %d", p, many, m, e)
			}
			if l, e := perm.Then(p, upTo(many)); e != api.ErrArg || len(l) != 0 {
				t.Errorf("Then(%v), of %d: %v, %d", p, many, l, e)
			}
		}
	}
}

func TestP6_1WrongMat(t *testing.T) {
	four := numbers(4)
	for _, m := range []api.Mat{
		{}, {Rows: 2}, {Cols: 2}, {Rows: 2, Cols: 2}, {Cells: four}, {Rows: 2, Cells: four}, {Cols: 2, Cells: four},
		{Rows: 1, Cols: 4, Cells: four}, {Rows: 4, Cols: 1, Cells: four}, {Rows: 2, Cols: 1, Cells: four}, {Rows: 2, Cols: 3, Cells: four},
		{Rows: 2, Cols: 2, Cells: numbers(3)}, {Rows: 2, Cols: 2, Cells: numbers(5)}, {Rows: 2, Cols: 2, Cells: numbers(1)}, {Rows: 2, Cols: 2, Cells: numbers(6)},
		{Rows: -2, Cols: -2, Cells: four}, {Rows: 2, Cols: -2, Cells: four}, {Rows: -2, Cols: 2, Cells: four}, {Rows: 2, Cols: -1},
		{Rows: 2, Cols: 65, Cells: numbers(130)}, {Rows: 2, Cols: 1000, Cells: numbers(2000)}, {Rows: 65, Cols: 2, Cells: numbers(130)},
		{Rows: 2, Cols: 1 << 62}, {Rows: 2, Cols: math.MinInt}, {Rows: 2, Cols: math.MinInt + 2, Cells: four}, {Rows: 2, Cols: math.MaxInt},
		{Rows: 2, Cols: 1<<32 + 2, Cells: four}, {Rows: 1<<32 + 2, Cols: 2, Cells: four}, {Rows: math.MinInt + 2, Cols: 2, Cells: four},
	} {
		if n, e := perm.Rows([]int{1, 0}, m); e != api.ErrArg || !noMat(n) {
			t.Errorf("Rows([1 0], %v): %v, %d", m, n, e)
		}
	}
}

// slowSign from the words of the document alone.
func slowSign(p []int) int {
	many := 0
	for i := range p {
		for j := i + 1; j < len(p); j++ {
			if p[i] > p[j] {
				many++
			}
		}
	}
	if many%2 == 0 {
		return 1
	}
	return -1
}

func TestP6_2Sign(t *testing.T) {
	d := dice(7)
	all := append(some(&d), append(orders(6), orders(7)...)...)
	for range 200 {
		all = append(all, d.order(1+d.below(64)))
	}
	for _, p := range all {
		if got := sign(t, p); got != slowSign(p) {
			t.Fatalf("Sign(%v): %d", p, got)
		}
	}
}

func TestP6_2Known(t *testing.T) {
	for _, c := range []struct {
		p     []int
		sign  int
		rings [][]int
	}{
		{[]int{1, 0, 2}, -1, [][]int{{0, 1}, {2}}},
		{[]int{0}, 1, [][]int{{0}}},
		{[]int{0, 1}, 1, [][]int{{0}, {1}}},
		{[]int{1, 0}, -1, [][]int{{0, 1}}},
		{[]int{2, 1, 0}, -1, [][]int{{0, 2}, {1}}},
		{[]int{1, 2, 0}, 1, [][]int{{0, 1, 2}}},
		{[]int{2, 0, 1}, 1, [][]int{{0, 2, 1}}},
		{[]int{1, 2, 3, 0}, -1, [][]int{{0, 1, 2, 3}}},
		{[]int{3, 2, 1, 0}, 1, [][]int{{0, 3}, {1, 2}}},
		{[]int{0, 4, 5, 3, 1, 2}, 1, [][]int{{0}, {1, 4}, {2, 5}, {3}}},
		{[]int{4, 3, 5, 1, 2, 0}, 1, [][]int{{0, 4, 2, 5}, {1, 3}}},
	} {
		if got := sign(t, c.p); got != c.sign {
			t.Errorf("Sign(%v): %d", c.p, got)
		}
		if got := rings(t, c.p); !slices.EqualFunc(got, c.rings, slices.Equal) {
			t.Errorf("Rings(%v): %v", c.p, got)
		}
	}
}

// slowRings goes round from each number, and keeps the way round if no number of it is less.
func slowRings(p []int) [][]int {
	var l [][]int
	for i := range p {
		ring := []int{i}
		for at := p[i]; at != i; at = p[at] {
			ring = append(ring, at)
		}
		if slices.Min(ring) == i {
			l = append(l, ring)
		}
	}
	return l
}

func TestP6_2Rings(t *testing.T) {
	d := dice(8)
	all := append(some(&d), orders(6)...)
	for n := 1; n <= 64; n++ {
		all = append(all, upTo(n), d.order(n))
	}
	for _, p := range all {
		l := rings(t, p)
		if !slices.EqualFunc(l, slowRings(p), slices.Equal) {
			t.Fatalf("Rings(%v): %v", p, l)
		}
		if !isOrder(slices.Concat(l...)) || len(slices.Concat(l...)) != len(p) {
			t.Fatalf("Rings(%v): %v hasn't each number once", p, l)
		}
	}
}

func TestP6_3SignOfThen(t *testing.T) {
	for n := 1; n <= 4; n++ {
		for _, p := range orders(n) {
			for _, q := range orders(n) {
				if sign(t, then(t, p, q)) != sign(t, p)*sign(t, q) {
					t.Fatalf("Sign of Then(%v, %v)", p, q)
				}
			}
		}
	}
	d := dice(9)
	for n := 5; n <= 64; n++ {
		for range 5 {
			p, q := d.order(n), d.order(n)
			if sign(t, then(t, p, q)) != sign(t, p)*sign(t, q) {
				t.Fatalf("Sign of Then(%v, %v)", p, q)
			}
		}
		if p := d.order(n); sign(t, back(t, p)) != sign(t, p) || sign(t, upTo(n)) != 1 {
			t.Fatalf("Sign of Back(%v), or of One(%d)", p, n)
		}
	}
}

func TestP6_3RingsTurn(t *testing.T) {
	d := dice(10)
	for _, p := range append(some(&d), orders(6)...) {
		want := 1
		for _, ring := range rings(t, p) {
			if len(ring)%2 == 0 {
				want = -want
			}
		}
		if sign(t, p) != want {
			t.Fatalf("Sign(%v), rings %v", p, rings(t, p))
		}
	}
}

// roomy is a copy with spare room behind it, filled with a mark.
func roomy[T any](l []T, fill T) []T {
	room := append(slices.Clone(l), slices.Repeat([]T{fill}, 80)...)
	return room[:len(l)]
}

func untouched[T comparable](room, l []T, fill T) bool {
	all := room[:len(l)+80]
	return slices.Equal(all[:len(l)], l) && !slices.ContainsFunc(all[len(l):], func(x T) bool { return x != fill })
}

func spoil[T any](answer []T, fill T) {
	answer = answer[:cap(answer)]
	for i := range answer {
		answer[i] = fill
	}
}

// What is handed in isn't changed, nor its spare room, and an answer shares nothing with it.
func TestOrderMemory(t *testing.T) {
	d := dice(11)
	for _, p := range some(&d) {
		q, x, m := d.order(len(p)), d.list(len(p)), d.mat(len(p), 3)
		for i, call := range []func(p, q []int, x []uint64, m api.Mat){
			func(p, q []int, x []uint64, m api.Mat) { perm.Right(p); perm.Sign(p) },
			func(p, q []int, x []uint64, m api.Mat) { l, _ := perm.Then(p, q); spoil(l, 99) },
			func(p, q []int, x []uint64, m api.Mat) { l, _ := perm.Back(p); spoil(l, 99) },
			func(p, q []int, x []uint64, m api.Mat) { l, _ := perm.Do(p, x); spoil(l, 99) },
			func(p, q []int, x []uint64, m api.Mat) { n, _ := perm.Rows(p, m); spoil(n.Cells, 99) },
			func(p, q []int, x []uint64, m api.Mat) {
				l, _ := perm.Rings(p)
				for _, ring := range l {
					spoil(ring, 99)
				}
			},
		} {
			p2, q2, x2, cells := roomy(p, mark), roomy(q, mark), roomy(x, wholeWord), roomy(m.Cells, wholeWord)
			call(p2, q2, x2, api.Mat{Rows: m.Rows, Cols: m.Cols, Cells: cells})
			if !untouched(p2, p, mark) || !untouched(q2, q, mark) || !untouched(x2, x, wholeWord) || !untouched(cells, m.Cells, wholeWord) {
				t.Errorf("call %d changes what it is given, or shares with it: %v, %v, %v, %v", i, p, q, x, m)
			}
		}
	}
}

// No two rings share memory.
func TestRingsMemory(t *testing.T) {
	d := dice(12)
	for _, p := range some(&d) {
		l := rings(t, p)
		for i := range l {
			whole := rings(t, p)
			spoil(whole[i], mark)
			for j := range whole {
				if j != i && !slices.Equal(whole[j], l[j]) {
					t.Fatalf("Rings(%v): %d and %d share", p, i, j)
				}
			}
		}
	}
}

// Both orders may be one list, and a call answers the same each time.
func TestOrderSameList(t *testing.T) {
	d := dice(13)
	for _, p := range some(&d) {
		l := slices.Clone(p)
		thenEach(t, l, l)
		if first, again := rings(t, l), rings(t, l); !slices.EqualFunc(first, again, slices.Equal) || !slices.Equal(l, p) {
			t.Fatalf("Rings(%v): %v, then %v", p, first, again)
		}
	}
}
