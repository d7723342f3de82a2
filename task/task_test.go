package task_test

import (
	"math"
	"math/big"
	"math/bits"
	"slices"
	"testing"

	"affidavit/api"
	"affidavit/prime"
	"affidavit/task"
)

const (
	greatest  = math.MaxInt64  // the greatest modulus: 7 * 7 * 73 * 127 * 337 * 92737 * 649657
	bigPrime  = greatest - 24  // the greatest prime below it: what is left of the one ahead of it is too great for layer 2
	shown     = greatest - 300 // the greatest prime that layer 2 builds a list for
	beyond    = api.MostPrime  // the least that is too great
	mersenne  = 1<<61 - 1      // a prime
	halfWord  = 1<<32 - 5      // the greatest prime of 32 bits
	wholeWord = math.MaxUint64
)

func primes() []uint64 { return []uint64{2, 3, 5, 7, 101, 65537, halfWord, mersenne, shown} }

func others() []uint64 { return []uint64{4, 6, 9, 15, 561, 1 << 32, greatest - 1, greatest} }

func wrongModuli() []uint64 {
	return []uint64{0, 1, beyond, beyond + 1, beyond + 25, wholeWord}
}

func kinds() []int {
	return []int{api.Product, api.Singular, api.Rank, api.Profile, api.Det, api.Minimal, api.Solving}
}

// plainKinds ask for M alone.
func plainKinds() []int { return kinds()[1:6] }

func wrongKinds() []int { return []int{0, 8, -1, -5, 9, 64, 1<<32 + 3, math.MinInt, math.MaxInt} }

// dice makes numbers that look like chance and are the same each time.
type dice uint64

func (d *dice) word() uint64 {
	*d ^= *d << 13
	*d ^= *d >> 7
	*d ^= *d << 17
	return uint64(*d)
}

func (d *dice) below(n int) int { return int(d.word() % uint64(n)) }

// list of just so many numbers, noughts and the greatest now and then.
func (d *dice) list(p uint64, many int) []uint64 {
	l := make([]uint64, many)
	for i := range l {
		switch d.word() % 6 {
		case 0:
		case 1:
			l[i] = p - 1
		default:
			l[i] = d.word() % p
		}
	}
	return l
}

func (d *dice) mat(p uint64, rows, cols int) api.Mat {
	return api.Mat{Rows: rows, Cols: cols, Cells: d.list(p, rows*cols)}
}

// poor is a matrix of no more than so great a rank.
func (d *dice) poor(p uint64, rows, cols, rank int) api.Mat {
	if rank == 0 {
		return noughts(rows, cols)
	}
	return times(p, d.mat(p, rows, rank), d.mat(p, rank, cols))
}

// mat of rows that are written out.
func mat(rows ...[]uint64) api.Mat {
	return api.Mat{Rows: len(rows), Cols: len(rows[0]), Cells: slices.Concat(rows...)}
}

func noughts(rows, cols int) api.Mat {
	return api.Mat{Rows: rows, Cols: cols, Cells: make([]uint64, rows*cols)}
}

// unit matrix: 1 where row and column are one.
func unit(n int) api.Mat {
	m := noughts(n, n)
	for i := range n {
		m.Cells[i*n+i] = 1
	}
	return m
}

func turned(m api.Mat) api.Mat {
	u := api.Mat{Rows: m.Cols, Cols: m.Rows}
	for j := range m.Cols {
		for i := range m.Rows {
			u.Cells = append(u.Cells, m.Cells[i*m.Cols+j])
		}
	}
	return u
}

// allLists of so many numbers below most.
func allLists(most uint64, many int) [][]uint64 {
	all := [][]uint64{nil}
	for range many {
		var longer [][]uint64
		for _, l := range all {
			for x := range most {
				longer = append(longer, append(slices.Clone(l), x))
			}
		}
		all = longer
	}
	return all
}

func allMats(p uint64, rows, cols int) []api.Mat {
	var l []api.Mat
	for _, cells := range allLists(p, rows*cols) {
		l = append(l, api.Mat{Rows: rows, Cols: cols, Cells: cells})
	}
	return l
}

// proofs of a prime by layer 2, that has its own tests; none, if it isn't one.
func proofs(p uint64) []api.Proof {
	l, _ := prime.Build(p)
	return l
}

// plain task of a kind that asks for M alone.
func plain(kind int, p uint64, m api.Mat) api.Task {
	return api.Task{Kind: kind, P: p, Proofs: proofs(p), M: m}
}

func product(p uint64, m, n api.Mat) api.Task {
	t := plain(api.Product, p, m)
	t.N = n
	return t
}

func solving(p uint64, m api.Mat, b []uint64) api.Task {
	t := plain(api.Solving, p, m)
	t.B = b
	return t
}

// of each kind that may be asked of M, a task: with a matrix of so many columns and a right side beside it.
func of(d *dice, p uint64, m api.Mat, cols int) []api.Task {
	l := []api.Task{product(p, m, d.mat(p, m.Cols, cols)), solving(p, m, d.list(p, m.Rows))}
	for _, kind := range plainKinds() {
		if m.Rows == m.Cols && (kind != api.Minimal || p > uint64(4*m.Rows+1)) || kind == api.Rank || kind == api.Profile {
			l = append(l, plain(kind, p, m))
		}
	}
	return l
}

// The slow ways: by products of two words and what is left of them, number by number, modulo primes.

func mul(p, a, b uint64) uint64 {
	high, low := bits.Mul64(a, b)
	return bits.Rem64(high, low, p)
}

// sum of two numbers below 2^63.
func sum(p, a, b uint64) uint64 { return (a + b) % p }

func negative(p, a uint64) uint64 { return (p - a) % p }

func inverse(p, a uint64) uint64 {
	return new(big.Int).ModInverse(new(big.Int).SetUint64(a), new(big.Int).SetUint64(p)).Uint64()
}

// times: the product of two matrices.
func times(p uint64, a, b api.Mat) api.Mat {
	m := noughts(a.Rows, b.Cols)
	for i := range a.Rows {
		for j := range b.Cols {
			for k := range a.Cols {
				m.Cells[i*b.Cols+j] = sum(p, m.Cells[i*b.Cols+j], mul(p, a.Cells[i*a.Cols+k], b.Cells[k*b.Cols+j]))
			}
		}
	}
	return m
}

// add so many times a list to another.
func add(p uint64, to, l []uint64, many uint64) {
	for i, x := range l {
		to[i] = sum(p, to[i], mul(p, many, x))
	}
}

// stairs: the rank and, of a matrix as wide as high, the determinant, column by column, rows being swapped.
func stairs(p uint64, m api.Mat) (int, uint64) {
	rows := slices.Collect(slices.Chunk(slices.Clone(m.Cells), m.Cols))
	rank, det := 0, uint64(1)
	for j := range m.Cols {
		i := rank
		for i < len(rows) && rows[i][j] == 0 {
			i++
		}
		if i == len(rows) {
			det = 0
			continue
		}
		if i != rank {
			rows[i], rows[rank] = rows[rank], rows[i]
			det = negative(p, det)
		}
		own := rows[rank]
		det = mul(p, det, own[j])
		for _, row := range rows[rank+1:] {
			add(p, row, own, negative(p, mul(p, row[j], inverse(p, own[j]))))
		}
		rank++
	}
	return rank, det
}

// slowProfile: the rows with which the rank of all that are there so far grows.
func slowProfile(p uint64, m api.Mat) []uint64 {
	var l []uint64
	last := 0
	for i := range m.Rows {
		rank, _ := stairs(p, api.Mat{Rows: i + 1, Cols: m.Cols, Cells: m.Cells[:(i+1)*m.Cols]})
		if rank > last {
			l = append(l, uint64(i))
		}
		last = rank
	}
	return l
}

// slowMinimal: how the first power of the matrix that is made of those ahead, all its numbers at once, is made of them.
func slowMinimal(p uint64, m api.Mat) []uint64 {
	var known, ways [][]uint64 // what is left of the powers ahead, and how it is made of these
	power := unit(m.Rows)
	for k := 0; ; k++ {
		left, way := slices.Clone(power.Cells), make([]uint64, m.Rows+1)
		way[k] = 1
		for i, l := range known {
			first := slices.IndexFunc(l, isNot0)
			many := negative(p, mul(p, left[first], inverse(p, l[first])))
			add(p, left, l, many)
			add(p, way, ways[i], many)
		}
		if !slices.ContainsFunc(left, isNot0) {
			return way[:k+1]
		}
		known, ways = append(known, left), append(ways, way)
		power = times(p, power, m)
	}
}

func isNot0(x uint64) bool { return x != 0 }

// slowSolving: does the rank stay, with B as one more column?
func slowSolving(p uint64, m api.Mat, b []uint64) []uint64 {
	wider := api.Mat{Rows: m.Rows, Cols: m.Cols + 1}
	for i, row := range slices.Collect(slices.Chunk(m.Cells, m.Cols)) {
		wider.Cells = append(append(wider.Cells, row...), b[i])
	}
	before, _ := stairs(p, m)
	with, _ := stairs(p, wider)
	return oneIf(before == with)
}

func oneIf(holds bool) []uint64 {
	if holds {
		return []uint64{1}
	}
	return []uint64{0}
}

// slowAnswer of a task that is right.
func slowAnswer(t api.Task) []uint64 {
	rank, det := stairs(t.P, t.M)
	switch t.Kind {
	case api.Product:
		return times(t.P, t.M, t.N).Cells
	case api.Singular:
		return oneIf(det == 0)
	case api.Rank:
		return []uint64{uint64(rank)}
	case api.Profile:
		return slowProfile(t.P, t.M)
	case api.Det:
		return []uint64{det}
	case api.Minimal:
		return slowMinimal(t.P, t.M)
	}
	return slowSolving(t.P, t.M, t.B)
}

// slowShows: do the proofs hold, and show p? By numbers of any length.
func slowShows(l []api.Proof, p uint64) bool {
	known := []uint64{2}
	for i, f := range l {
		if i == 200 || f.N <= known[i] || f.N >= beyond || f.Root < 1 || f.Root >= f.N || len(f.Parts) > 20 || !slowProves(f, known) {
			return false
		}
		known = append(known, f.N)
	}
	return slices.Contains(known, p)
}

func slowProves(f api.Proof, known []uint64) bool {
	n, made := new(big.Int).SetUint64(f.N), big.NewInt(1)
	power := func(times uint64) uint64 {
		return new(big.Int).Exp(new(big.Int).SetUint64(f.Root), new(big.Int).SetUint64(times), n).Uint64()
	}
	last := uint64(0)
	for _, part := range f.Parts {
		if part.Prime <= last || part.Times < 1 || part.Times > 63 || !slices.Contains(known, part.Prime) || power((f.N-1)/part.Prime) == 1 {
			return false
		}
		made.Mul(made, new(big.Int).Exp(new(big.Int).SetUint64(part.Prime), big.NewInt(int64(part.Times)), nil))
		last = part.Prime
	}
	return made.Cmp(new(big.Int).SetUint64(f.N-1)) == 0 && power(f.N-1) == 1
}

func slowMat(p uint64, m api.Mat) bool {
	return m.Rows >= 1 && m.Rows <= 64 && m.Cols >= 1 && m.Cols <= 64 && len(m.Cells) == m.Rows*m.Cols && below(p, m.Cells)
}

func below(p uint64, l []uint64) bool {
	return !slices.ContainsFunc(l, func(x uint64) bool { return x >= p })
}

func empty(m api.Mat) bool { return m.Rows == 0 && m.Cols == 0 && len(m.Cells) == 0 }

// slowRight goes through the chapter's words.
func slowRight(t api.Task) bool {
	if t.Kind < 1 || t.Kind > 7 || !slowShows(t.Proofs, t.P) || !slowMat(t.P, t.M) {
		return false
	}
	square := t.M.Rows == t.M.Cols
	switch t.Kind {
	case 1:
		return slowMat(t.P, t.N) && t.N.Rows == t.M.Cols && len(t.B) == 0
	case 7:
		return len(t.B) == t.M.Rows && below(t.P, t.B) && empty(t.N)
	case 6:
		return square && t.P > uint64(t.M.Rows)*4+1 && empty(t.N) && len(t.B) == 0
	case 2, 5:
		return square && empty(t.N) && len(t.B) == 0
	}
	return empty(t.N) && len(t.B) == 0
}

// slowDraws of a task that is right.
func slowDraws(t api.Task) int {
	return []int{0, t.N.Cols, t.M.Rows, t.M.Cols, t.M.Cols, t.M.Cols, 1 + t.M.Rows, 0}[t.Kind]
}

// holds tells whether a task is right, and asks all that may be asked of it.
func holds(t *testing.T, x api.Task) bool {
	t.Helper()
	right := slowRight(x)
	if task.Right(x) != right {
		t.Fatalf("Right(%v): %v", x, !right)
	}
	if n, many := task.Numbers(x), len(x.M.Cells)+len(x.N.Cells)+len(x.B); n != many {
		t.Fatalf("Numbers(%v): %d, not %d", x, n, many)
	}
	a, e := task.Answer(x)
	draws := task.Draws(x)
	if !right {
		if e != api.ErrArg || len(a) != 0 || draws != 0 {
			t.Fatalf("of %v, which isn't right: %v, %d, %d draws", x, a, e, draws)
		}
		return false
	}
	if want := slowAnswer(x); e != api.OK || !slices.Equal(a, want) {
		t.Fatalf("Answer(%v): %v, %d, not %v", x, a, e, want)
	}
	if draws != slowDraws(x) {
		t.Fatalf("Draws(%v): %d, not %d", x, draws, slowDraws(x))
	}
	return true
}

// answer of a task that is right.
func answer(t *testing.T, x api.Task) []uint64 {
	t.Helper()
	a, e := task.Answer(x)
	if e != api.OK {
		t.Fatalf("Answer(%v): %d", x, e)
	}
	return a
}

func TestP16_1Known(t *testing.T) {
	m := mat([]uint64{0, 2, 4}, []uint64{0, 4, 1}, []uint64{3, 0, 1}) // the row 1 is twice the row 0
	n := mat([]uint64{1, 0}, []uint64{1, 1}, []uint64{1, 3})
	wide := mat([]uint64{0, 0, 0, 0}, []uint64{0, 0, 3, 1})
	steps := mat([]uint64{1, 1}, []uint64{0, 2})
	for i, k := range []struct {
		t    api.Task
		want []uint64
	}{
		{plain(api.Singular, 7, mat([]uint64{1, 2}, []uint64{2, 4})), []uint64{1}}, // the document's
		{plain(api.Singular, 7, mat([]uint64{1, 2}, []uint64{2, 5})), []uint64{0}},
		{plain(api.Singular, 7, m), []uint64{1}},
		{product(7, m, n), []uint64{6, 0, 5, 0, 4, 3}},
		{product(7, n, mat([]uint64{6}, []uint64{2})), []uint64{6, 1, 5}},
		{plain(api.Rank, 7, m), []uint64{2}},
		{plain(api.Profile, 7, m), []uint64{0, 2}},
		{plain(api.Det, 7, m), []uint64{0}},
		{plain(api.Rank, 7, wide), []uint64{1}},
		{plain(api.Profile, 7, wide), []uint64{1}},
		{plain(api.Rank, 7, turned(wide)), []uint64{1}},
		{plain(api.Profile, 7, turned(wide)), []uint64{2}},
		{plain(api.Rank, 7, noughts(3, 2)), []uint64{0}},
		{plain(api.Profile, 7, noughts(3, 2)), nil},
		{plain(api.Det, 7, mat([]uint64{0, 2}, []uint64{3, 5})), []uint64{1}},
		{plain(api.Det, 7, mat([]uint64{5})), []uint64{5}}, // the document's example of layer 24
		{plain(api.Det, 2, mat([]uint64{1})), []uint64{1}},
		{plain(api.Minimal, 11, steps), []uint64{2, 8, 1}}, // (x - 1)(x - 2)
		{plain(api.Minimal, 11, mat([]uint64{3, 0}, []uint64{0, 3})), []uint64{8, 1}},
		{plain(api.Minimal, 11, noughts(2, 2)), []uint64{0, 1}},
		{plain(api.Minimal, 11, mat([]uint64{0, 1}, []uint64{0, 0})), []uint64{0, 0, 1}},
		{solving(7, m, []uint64{2, 4, 6}), []uint64{1}},
		{solving(7, m, []uint64{2, 5, 6}), []uint64{0}},
		{solving(7, m, []uint64{0, 0, 0}), []uint64{1}},
		{solving(2, noughts(1, 3), []uint64{1}), []uint64{0}},
	} {
		if a, e := task.Answer(k.t); e != api.OK || !slices.Equal(a, k.want) || !task.Right(k.t) {
			t.Errorf("%d: Answer(%v): %v, %d, not %v", i, k.t, a, e, k.want)
		}
		if !holds(t, k.t) {
			t.Errorf("%d: not right", i)
		}
	}
}

// littleShapes: a prime, rows and columns, of which all matrices are gone through.
func littleShapes() [][3]int {
	return [][3]int{{2, 1, 1}, {2, 1, 3}, {2, 3, 1}, {2, 2, 2}, {2, 2, 3}, {2, 3, 2}, {2, 3, 3}, {3, 1, 2}, {3, 2, 1}, {3, 2, 2}, {5, 1, 2}, {5, 2, 2}, {7, 1, 1}, {11, 1, 1}, {11, 1, 2}, {11, 2, 2}}
}

// overLittle goes through all little matrices.
func overLittle(f func(p uint64, m api.Mat, d *dice)) {
	d := dice(1)
	for _, s := range littleShapes() {
		p := uint64(s[0])
		for i, m := range allMats(p, s[1], s[2]) {
			if p < 11 || s[1] < 2 || i%7 == 0 { // a part of the most will do
				f(p, m, &d)
			}
		}
	}
}

func TestP16_1All(t *testing.T) {
	overLittle(func(p uint64, m api.Mat, d *dice) {
		for _, x := range of(d, p, m, 1+d.below(3)) {
			if !holds(t, x) {
				t.Fatalf("%v isn't right", x)
			}
		}
	})
}

// Each right side of each little matrix: 1, if there is an x at all.
func TestP16_1AllSolving(t *testing.T) {
	for _, s := range [][3]int{{2, 1, 1}, {2, 2, 2}, {2, 3, 2}, {2, 2, 3}, {3, 1, 2}, {3, 2, 1}, {3, 2, 2}, {5, 1, 1}} {
		p := uint64(s[0])
		for _, m := range allMats(p, s[1], s[2]) {
			for _, b := range allLists(p, s[1]) {
				some := slices.ContainsFunc(allLists(p, s[2]), func(x []uint64) bool {
					return slices.Equal(times(p, m, api.Mat{Rows: s[2], Cols: 1, Cells: x}).Cells, b)
				})
				if a := answer(t, solving(p, m, b)); !slices.Equal(a, oneIf(some)) {
					t.Fatalf("modulo %d, of %v and %v: %v", p, m, b, a)
				}
			}
		}
	}
}

// overMats goes through matrices modulo all the primes, of many shapes and ranks.
func overMats(seed uint64, f func(p uint64, m api.Mat, d *dice)) {
	d := dice(seed)
	for _, p := range primes() {
		for _, s := range [][2]int{{1, 1}, {2, 2}, {3, 3}, {4, 4}, {7, 7}, {12, 12}, {1, 9}, {9, 1}, {3, 8}, {8, 3}, {20, 17}, {1, 64}, {64, 1}} {
			least := min(s[0], s[1])
			for _, rank := range []int{0, 1, least / 2, least - 1} {
				f(p, d.poor(p, s[0], s[1], max(0, rank)), &d)
			}
			f(p, d.mat(p, s[0], s[1]), &d)
		}
	}
}

func TestP16_1More(t *testing.T) {
	overMats(2, func(p uint64, m api.Mat, d *dice) {
		for _, x := range of(d, p, m, 1+d.below(5)) {
			if !holds(t, x) {
				t.Fatalf("%v isn't right", x)
			}
		}
	})
}

// The greatest sides, modulo the greatest prime that is shown, and the least.
func TestP16_1Greatest(t *testing.T) {
	d := dice(3)
	for _, p := range []uint64{2, 263, shown} {
		for _, m := range []api.Mat{d.mat(p, 64, 64), d.poor(p, 64, 64, 40), {Rows: 64, Cols: 64, Cells: slices.Repeat([]uint64{p - 1}, 64*64)}} {
			for _, x := range of(&d, p, m, 64) {
				if x.Kind == api.Minimal && p == 263 {
					continue // one modulus will do for the slowest
				}
				if !holds(t, x) {
					t.Fatalf("modulo %d, %d isn't right", p, x.Kind)
				}
			}
		}
	}
	for _, m := range []api.Mat{d.mat(65537, 64, 63), d.mat(65537, 63, 64), d.mat(65537, 64, 1), d.mat(65537, 1, 64)} {
		for _, x := range of(&d, 65537, m, 64) {
			if !holds(t, x) {
				t.Fatalf("%d by %d: %d isn't right", m.Rows, m.Cols, x.Kind)
			}
		}
	}
}

// Of each side, P must be above 4 times it and 1 for Minimal; of the other kinds, it need not.
func TestP16_1MinimalModulus(t *testing.T) {
	d := dice(4)
	for p := uint64(2); p < 300; p++ {
		if !big.NewInt(int64(p)).ProbablyPrime(0) {
			continue
		}
		for n := 1; n <= 64; n++ {
			m := d.mat(p, n, n)
			for _, kind := range plainKinds() {
				if right := task.Right(plain(kind, p, m)); right != (kind != api.Minimal || p > uint64(4*n+1)) {
					t.Fatalf("modulo %d, of %d: %d: %v", p, n, kind, right)
				}
			}
		}
	}
	// The moduli 4 n + 1 that are prime, and the least above them.
	for n, more := range map[int]uint64{1: 7, 3: 17, 4: 19, 7: 31, 9: 41, 64: 263} {
		m := noughts(n, n)
		if p := uint64(4*n + 1); n < 64 && (task.Right(plain(api.Minimal, p, m)) || !task.Right(plain(api.Det, p, m))) {
			t.Errorf("modulo %d, of %d: Minimal is right, or Det isn't", p, n)
		}
		if a := answer(t, plain(api.Minimal, more, m)); !slices.Equal(a, []uint64{0, 1}) {
			t.Errorf("modulo %d, of %d: %v", more, n, a)
		}
	}
}

// Kinds that ask for a matrix as wide as high, and one that isn't.
func TestP16_1Square(t *testing.T) {
	for _, s := range [][2]int{{1, 2}, {2, 1}, {3, 4}, {4, 3}, {1, 64}, {64, 1}, {63, 64}} {
		for _, kind := range plainKinds() {
			x := plain(kind, 65537, noughts(s[0], s[1]))
			if right := holds(t, x); right != (kind == api.Rank || kind == api.Profile) {
				t.Errorf("%d by %d, %d: %v", s[0], s[1], kind, right)
			}
		}
	}
}

// What stands beside M where it has to, or where it must not.
func TestP16_1Beside(t *testing.T) {
	m := mat([]uint64{1, 2, 3}, []uint64{4, 5, 6}, []uint64{7, 8, 10})
	sides := []api.Mat{
		{}, {Cells: []uint64{}}, {Rows: 1}, {Cols: 1}, {Rows: -1}, {Cells: []uint64{0}}, {Rows: 3}, {Rows: 3, Cols: 1}, {Rows: 3, Cols: 0, Cells: []uint64{}},
		noughts(1, 1), noughts(2, 3), noughts(3, 1), noughts(3, 3), noughts(3, 64), noughts(3, 65), noughts(4, 3), noughts(64, 64),
		{Rows: 3, Cols: 1, Cells: []uint64{0, 0}}, {Rows: 3, Cols: 1, Cells: []uint64{0, 0, 0, 0}}, {Rows: 3, Cols: 1, Cells: []uint64{100, 100, 100}}, {Rows: 3, Cols: 1, Cells: []uint64{0, 101, 0}},
		{Rows: 3, Cols: 1, Cells: []uint64{0, 0, wholeWord}}, {Rows: 3, Cols: math.MaxInt, Cells: []uint64{0}}, {Rows: math.MinInt, Cols: math.MinInt},
	}
	lists := [][]uint64{nil, {}, {0}, {1, 2}, {0, 0, 0}, {100, 1, 0}, {101, 0, 0}, {0, 0, 101}, {0, wholeWord, 0}, {0, 0, 0, 0}, make([]uint64, 64), make([]uint64, 65)}
	right := map[int]int{}
	for _, kind := range append(kinds(), wrongKinds()...) {
		for _, n := range sides {
			for _, b := range lists {
				x := plain(kind, 101, m)
				x.N, x.B = n, b
				if holds(t, x) {
					right[kind]++
				}
			}
		}
	}
	for i, kind := range kinds() {
		if want := []int{8, 4, 4, 4, 4, 4, 4}[i]; right[kind] != want {
			t.Errorf("%d: %d are right, not %d", kind, right[kind], want)
		}
	}
	if len(right) != 7 {
		t.Error("of other kinds some are right:", right)
	}
}

// wrongMats of the modulus 101.
func wrongMats() []api.Mat {
	l := []api.Mat{
		{}, {Rows: 1, Cols: 1}, {Rows: 1, Cols: 1, Cells: []uint64{0, 0}}, {Rows: 1, Cols: 1, Cells: []uint64{101}}, {Rows: 1, Cols: 1, Cells: []uint64{wholeWord}},
		{Rows: -1, Cols: -1, Cells: []uint64{0}}, {Rows: 2, Cols: 2, Cells: make([]uint64, 3)}, {Rows: 2, Cols: 2, Cells: make([]uint64, 5)},
		{Rows: 2, Cols: 2, Cells: []uint64{101, 0, 0, 0}}, {Rows: 2, Cols: 2, Cells: []uint64{0, 0, 0, 101}},
		{Rows: 65, Cols: 65, Cells: make([]uint64, 65*65)}, {Rows: 65, Cols: 1, Cells: make([]uint64, 65)}, {Rows: 1, Cols: 65, Cells: make([]uint64, 65)},
	}
	for _, n := range []int{0, -1, 65, math.MinInt, math.MaxInt, 1 << 32, 1 << 62} {
		l = append(l, api.Mat{Rows: n, Cols: n}, api.Mat{Rows: n, Cols: 1, Cells: []uint64{0}}, api.Mat{Rows: 1, Cols: n, Cells: []uint64{0}})
	}
	return l
}

func TestP16_1WrongMat(t *testing.T) {
	for _, kind := range append(kinds(), wrongKinds()...) {
		for _, m := range wrongMats() {
			for _, n := range []api.Mat{{}, noughts(1, 1), noughts(2, 2), noughts(64, 1), m} {
				for _, many := range []int{0, 1, 2, 65} {
					x := plain(kind, 101, m)
					x.N, x.B = n, make([]uint64, many)
					if holds(t, x) {
						t.Errorf("%d of %v and %v is right", kind, m, n)
					}
				}
			}
		}
	}
}

func TestP16_1WrongModulus(t *testing.T) {
	d := dice(5)
	for _, p := range slices.Concat(wrongModuli(), others()) {
		for _, l := range [][]api.Proof{nil, proofs(7), proofs(101), proofs(mersenne)} {
			for _, x := range of(&d, 101, noughts(1, 1), 1) {
				x.P, x.Proofs, x.N.Cells, x.B = p, l, make([]uint64, len(x.N.Cells)), make([]uint64, len(x.B))
				if holds(t, x) {
					t.Errorf("modulo %d: %d is right", p, x.Kind)
				}
			}
		}
	}
}

// A task must have proofs of P, and of whatever stands in the list.
func TestP16_1Proofs(t *testing.T) {
	three, seven := proofs(3)[0], proofs(7)[1]
	elf := api.Proof{N: 11, Root: 2, Parts: []api.Part{{Prime: 2, Times: 1}, {Prime: 5, Times: 1}}}
	wrong := three
	wrong.Root = 1
	for i, k := range []struct {
		p    uint64
		l    []api.Proof
		want bool
	}{
		{7, []api.Proof{three, seven}, true},
		{3, []api.Proof{three, seven}, true}, // more than is needed
		{2, []api.Proof{three, seven}, true},
		{2, nil, true},
		{2, []api.Proof{wrong}, false},
		{3, []api.Proof{wrong}, false},
		{3, []api.Proof{three, elf}, false}, // 5 isn't shown
		{11, []api.Proof{three, elf}, false},
		{5, []api.Proof{three, elf}, false}, // 5 is a part's prime alone
		{7, []api.Proof{seven, three}, false},
		{7, []api.Proof{seven}, false},
		{7, []api.Proof{three, three, seven}, false},
		{7, nil, false},
		{5, []api.Proof{three, seven}, false},
		{bigPrime, nil, false},
		{bigPrime, proofs(shown), false},
	} {
		x := plain(api.Rank, k.p, mat([]uint64{1}))
		x.Proofs = k.l
		if task.Right(x) != k.want || holds(t, x) != k.want {
			t.Errorf("%d: modulo %d, by %v: %v", i, k.p, k.l, !k.want)
		}
	}
}

// Each thing of a list of proofs is changed; whether the task is right then, layer 2's own words tell.
func TestP16_1ProofsSpoilt(t *testing.T) {
	lost := 0
	for _, p := range []uint64{3, 7, 101, 65537, mersenne, shown} {
		good := plain(api.Det, p, mat([]uint64{1, 2}, []uint64{1, 1}))
		for i := range good.Proofs {
			for _, do := range []func(f *api.Proof){
				func(f *api.Proof) { f.N++ }, func(f *api.Proof) { f.N = 2 }, func(f *api.Proof) { f.N = beyond },
				func(f *api.Proof) { f.Root = 1 }, func(f *api.Proof) { f.Root += f.N }, func(f *api.Proof) { f.Root = f.N - 1 }, func(f *api.Proof) { f.Root = 0 },
				func(f *api.Proof) { f.Parts = nil }, func(f *api.Proof) { f.Parts[0].Times++ }, func(f *api.Proof) { f.Parts[0].Times = 0 }, func(f *api.Proof) { f.Parts[0].Times = math.MaxInt },
				func(f *api.Proof) { f.Parts[0].Prime = 0 }, func(f *api.Proof) { f.Parts[0].Prime = 1 }, func(f *api.Proof) { slices.Reverse(f.Parts) },
				func(f *api.Proof) { f.Parts = append(f.Parts, make([]api.Part, 30)...) },
			} {
				x := good
				x.Proofs = proofs(p)
				do(&x.Proofs[i])
				if !holds(t, x) {
					lost++
				}
			}
			x := good
			if x.Proofs = slices.Delete(proofs(p), i, i+1); holds(t, x) {
				t.Errorf("modulo %d, without the proof %d, it is right", p, i)
			}
		}
	}
	if lost < 500 {
		t.Error(lost)
	}
}

// At most 200 proofs.
func TestP16_1ManyProofs(t *testing.T) {
	var l []api.Proof
	for p := uint64(3); len(l) < 202; p += 2 {
		if big.NewInt(int64(p)).ProbablyPrime(0) {
			own := proofs(p)
			l = append(l, own[len(own)-1])
		}
	}
	for _, k := range []struct {
		many int
		want bool
	}{{199, true}, {200, true}, {201, false}, {202, false}} {
		for _, p := range []uint64{2, 3, l[100].N, l[198].N} {
			x := plain(api.Rank, p, mat([]uint64{1}))
			x.Proofs = l[:k.many]
			if task.Right(x) != k.want || holds(t, x) != k.want {
				t.Errorf("modulo %d, by %d proofs: %v", p, k.many, !k.want)
			}
		}
	}
}

// Each number of a task that is right is spoilt, one by one.
func TestP16_1NumbersSpoilt(t *testing.T) {
	d := dice(6)
	for _, p := range primes() {
		for _, x := range of(&d, p, d.mat(p, 3, 3), 2) {
			for _, l := range [][]uint64{x.M.Cells, x.N.Cells, x.B} {
				for i, was := range l {
					for _, number := range []uint64{p, p + 1, p + was, beyond, wholeWord} {
						l[i] = number
						if holds(t, x) {
							t.Errorf("%v is right", x)
						}
					}
					l[i] = p - 1
					if !holds(t, x) {
						t.Errorf("%v isn't right", x)
					}
					l[i] = was
				}
			}
		}
	}
}

func sameMat(a, b api.Mat) bool {
	return a.Rows == b.Rows && a.Cols == b.Cols && slices.Equal(a.Cells, b.Cells)
}

func sameProofs(a, b []api.Proof) bool {
	return slices.EqualFunc(a, b, func(f, g api.Proof) bool {
		return f.N == g.N && f.Root == g.Root && slices.Equal(f.Parts, g.Parts)
	})
}

func sameTask(a, b api.Task) bool {
	return a.Kind == b.Kind && a.P == b.P && sameProofs(a.Proofs, b.Proofs) && sameMat(a.M, b.M) && sameMat(a.N, b.N) && slices.Equal(a.B, b.B)
}

// plainHolds: is the task the one of which the words speak?
func plainHolds(t *testing.T, kind int, p uint64, m api.Mat) api.Errno {
	t.Helper()
	want, wanted := api.Task{}, api.Errno(0)
	l, e := prime.Build(p)
	x := api.Task{Kind: kind, P: p, Proofs: l, M: m}
	switch {
	case e != api.OK:
		wanted = e
	case kind == api.Product || kind == api.Solving || !slowRight(x):
		wanted = api.ErrArg
	default:
		want = x
	}
	got, e := task.Plain(kind, p, m)
	if e != wanted || !sameTask(got, want) {
		t.Fatalf("Plain(%d, %d, %v): %v, %d, not %v, %d", kind, p, m, got, e, want, wanted)
	}
	return e
}

func TestP16_2PlainKnown(t *testing.T) {
	m, wide := mat([]uint64{1, 2}, []uint64{3, 4}), mat([]uint64{1, 2, 3})
	x, e := task.Plain(api.Singular, 7, m)
	if want := (api.Task{Kind: 2, P: 7, Proofs: []api.Proof{
		{N: 3, Root: 2, Parts: []api.Part{{Prime: 2, Times: 1}}},
		{N: 7, Root: 3, Parts: []api.Part{{Prime: 2, Times: 1}, {Prime: 3, Times: 1}}},
	}, M: m}); e != api.OK || !sameTask(x, want) {
		t.Error(x, e)
	}
	for i, k := range []struct {
		kind int
		p    uint64
		m    api.Mat
		want api.Errno
	}{
		{api.Rank, 7, wide, api.OK},
		{api.Profile, 7, wide, api.OK},
		{api.Det, 7, wide, api.ErrArg},
		{api.Singular, 7, wide, api.ErrArg},
		{api.Minimal, 65537, wide, api.ErrArg},
		{api.Minimal, 7, m, api.ErrArg},
		{api.Minimal, 11, m, api.OK},
		{api.Minimal, 5, mat([]uint64{3}), api.ErrArg},
		{api.Minimal, 7, mat([]uint64{3}), api.OK},
		{api.Product, 7, m, api.ErrArg},
		{api.Solving, 7, m, api.ErrArg},
		{0, 7, m, api.ErrArg},
		{8, 7, m, api.ErrArg},
		{api.Rank, 2, m, api.ErrArg}, // 2, 3 and 4 are no numbers of 2
		{api.Rank, 2, noughts(2, 2), api.OK},
		{api.Rank, 3, m, api.ErrArg},
		{api.Rank, 5, m, api.OK},
		// What isn't right, by a P that isn't prime either, or isn't shown.
		{api.Rank, 9, m, api.ErrNone},
		{api.Det, 9, wide, api.ErrNone},
		{0, 9, api.Mat{}, api.ErrNone},
		{api.Product, 561, m, api.ErrNone},
		{api.Solving, bigPrime, m, api.ErrLong},
		{api.Rank, bigPrime, m, api.ErrLong},
		{8, bigPrime, api.Mat{}, api.ErrLong},
		{api.Rank, 1, m, api.ErrArg},
		{api.Rank, 0, m, api.ErrArg},
		{api.Rank, beyond, m, api.ErrArg},
	} {
		if e := plainHolds(t, k.kind, k.p, k.m); e != k.want {
			t.Errorf("%d: Plain(%d, %d, %v): %d, not %d", i, k.kind, k.p, k.m, e, k.want)
		}
	}
}

func TestP16_2Plain(t *testing.T) {
	d := dice(7)
	told := map[api.Errno]int{}
	for _, kind := range append(kinds(), wrongKinds()...) {
		for _, p := range slices.Concat(primes(), others(), wrongModuli(), []uint64{11, 13, 17, 19, bigPrime}) {
			l := wrongMats()
			if p > 0 {
				l = append(l, d.mat(p, 1, 1), d.mat(p, 2, 2), d.mat(p, 3, 3), d.mat(p, 4, 4), d.mat(p, 2, 3), d.mat(p, 64, 1), noughts(64, 64))
			}
			for _, m := range l {
				told[plainHolds(t, kind, p, m)]++
			}
		}
	}
	for _, e := range []api.Errno{api.OK, api.ErrArg, api.ErrLong, api.ErrNone} {
		if told[e] < 100 {
			t.Error(e, told[e])
		}
	}
	if len(told) != 4 {
		t.Error(told)
	}
}

// What Plain tells is right, and its answer is the task's.
func TestP16_2PlainAnswer(t *testing.T) {
	overMats(8, func(p uint64, m api.Mat, d *dice) {
		for _, x := range of(d, p, m, 1) {
			if x.Kind == api.Product || x.Kind == api.Solving {
				continue
			}
			got, e := task.Plain(x.Kind, p, m)
			if e != api.OK || !task.Right(got) || !slices.Equal(answer(t, got), answer(t, x)) {
				t.Fatalf("Plain(%d, %d, %v): %v, %d", x.Kind, p, m, got, e)
			}
		}
	})
}

func TestP16_2DrawsKnown(t *testing.T) {
	wide, high, square := noughts(2, 5), noughts(5, 2), noughts(3, 3)
	for i, k := range []struct {
		t              api.Task
		draws, numbers int
	}{
		{product(7, wide, noughts(5, 4)), 4, 30},
		{product(7, high, noughts(2, 6)), 6, 22},
		{product(7, wide, noughts(5, 1)), 1, 15},
		{plain(api.Singular, 7, square), 3, 9},
		{plain(api.Rank, 7, wide), 5, 10},
		{plain(api.Rank, 7, high), 2, 10},
		{plain(api.Profile, 7, wide), 5, 10},
		{plain(api.Profile, 7, high), 2, 10},
		{plain(api.Det, 7, square), 3, 9},
		{plain(api.Minimal, 17, square), 4, 9},
		{plain(api.Minimal, 7, noughts(1, 1)), 2, 1},
		{plain(api.Minimal, 263, noughts(64, 64)), 65, 4096},
		{solving(7, wide, make([]uint64, 2)), 0, 12},
		{solving(7, high, make([]uint64, 5)), 0, 15},
		{product(7, noughts(64, 64), noughts(64, 64)), 64, 8192},
		// Those that aren't right have their numbers all the same.
		{product(7, wide, noughts(4, 4)), 0, 26},
		{plain(api.Singular, 7, wide), 0, 10},
		{plain(api.Minimal, 13, square), 0, 9},
		{plain(api.Rank, 9, wide), 0, 10},
		{plain(0, 7, square), 0, 9},
		{plain(8, 7, square), 0, 9},
		{solving(7, wide, make([]uint64, 5)), 0, 15},
		{api.Task{Kind: api.Rank, P: 2, M: api.Mat{Rows: 3, Cols: 3, Cells: []uint64{1}}}, 0, 1},
		{api.Task{}, 0, 0},
	} {
		if draws, numbers := task.Draws(k.t), task.Numbers(k.t); draws != k.draws || numbers != k.numbers {
			t.Errorf("%d: %d draws, not %d; %d numbers, not %d", i, draws, k.draws, numbers, k.numbers)
		}
	}
}

// kindsHold: a Det of 0 is Singular's 1; and so on, of one matrix.
func kindsHold(t *testing.T, p uint64, m api.Mat) {
	t.Helper()
	rank, profile := answer(t, plain(api.Rank, p, m)), answer(t, plain(api.Profile, p, m))
	if uint64(len(profile)) != rank[0] || !slices.IsSorted(profile) {
		t.Fatalf("modulo %d, of %v: rank %v, profile %v", p, m, rank, profile)
	}
	if m.Rows != m.Cols {
		return
	}
	singular, det := answer(t, plain(api.Singular, p, m)), answer(t, plain(api.Det, p, m))
	if singular[0] > 1 || (det[0] == 0) != (singular[0] == 1) || (rank[0] == uint64(m.Rows)) != (singular[0] == 0) {
		t.Fatalf("modulo %d, of %v: singular %v, determinant %v, rank %v", p, m, singular, det, rank)
	}
	if p <= uint64(4*m.Rows+1) {
		return
	}
	if own := answer(t, plain(api.Minimal, p, m)); (own[0] == 0) != (det[0] == 0) {
		t.Fatalf("modulo %d, of %v: own polynomial %v, determinant %v", p, m, own, det)
	}
}

func TestP16_3(t *testing.T) {
	overLittle(func(p uint64, m api.Mat, d *dice) { kindsHold(t, p, m) })
	overMats(9, func(p uint64, m api.Mat, d *dice) { kindsHold(t, p, m) })
}

// A matrix and the turned one have one rank, determinant and own polynomial.
func TestP6Turned(t *testing.T) {
	overMats(10, func(p uint64, m api.Mat, d *dice) {
		for _, x := range of(d, p, m, 1) {
			if x.Kind != api.Rank && x.Kind != api.Det && x.Kind != api.Minimal {
				continue
			}
			if a, b := answer(t, x), answer(t, plain(x.Kind, p, turned(m))); !slices.Equal(a, b) {
				t.Fatalf("modulo %d, %d of %v: %v, turned: %v", p, x.Kind, m, a, b)
			}
		}
	})
}

// A product's determinant is the determinants' product, its rank no greater than either's.
func TestP7Products(t *testing.T) {
	overMats(11, func(p uint64, m api.Mat, d *dice) {
		n := d.mat(p, m.Cols, m.Rows)
		both := api.Mat{Rows: m.Rows, Cols: m.Rows, Cells: answer(t, product(p, m, n))}
		ranks := []uint64{answer(t, plain(api.Rank, p, m))[0], answer(t, plain(api.Rank, p, n))[0]}
		if rank := answer(t, plain(api.Rank, p, both))[0]; rank > slices.Min(ranks) {
			t.Fatalf("modulo %d, of %v and %v: rank %d, of them %v", p, m, n, rank, ranks)
		}
		if m.Rows != m.Cols {
			return
		}
		dets := []uint64{answer(t, plain(api.Det, p, m))[0], answer(t, plain(api.Det, p, n))[0]}
		if det := answer(t, plain(api.Det, p, both))[0]; det != mul(p, dets[0], dets[1]) {
			t.Fatalf("modulo %d, of %v and %v: determinant %d, of them %v", p, m, n, det, dets)
		}
	})
}

// A task is right only modulo a prime: of all little moduli, whatever list of proofs there is for a prime near it.
func TestP8Primes(t *testing.T) {
	var all [][]api.Proof
	for p := range uint64(200) {
		all = append(all, proofs(p))
	}
	for p := range uint64(200) {
		right := false
		for _, l := range all {
			x := plain(api.Rank, p, noughts(1, 1))
			x.Proofs = l
			right = right || task.Right(x)
		}
		if right != big.NewInt(int64(p)).ProbablyPrime(0) {
			t.Errorf("modulo %d: %v", p, right)
		}
	}
}

// roomy is a copy with spare room behind it, filled with a mark.
func roomy[T any](l []T, mark T) []T {
	return append(slices.Clone(l), slices.Repeat([]T{mark}, 80)...)[:len(l)]
}

func untouched[T comparable](room, l []T, mark T) bool {
	all := room[:len(l)+80]
	return slices.Equal(all[:len(l)], l) && !slices.ContainsFunc(all[len(l):], func(x T) bool { return x != mark })
}

// spoil an answer with its spare room.
func spoil[T any](l []T, mark T) {
	l = l[:cap(l)]
	for i := range l {
		l[i] = mark
	}
}

func proofMark() api.Proof { return api.Proof{N: wholeWord, Root: wholeWord} }

func partMark() api.Part { return api.Part{Prime: wholeWord, Times: -1} }

func roomyTask(x api.Task) api.Task {
	room := x
	room.Proofs = roomy(x.Proofs, proofMark())
	for i, f := range room.Proofs {
		room.Proofs[i].Parts = roomy(f.Parts, partMark())
	}
	room.M.Cells, room.N.Cells, room.B = roomy(x.M.Cells, wholeWord), roomy(x.N.Cells, wholeWord), roomy(x.B, wholeWord)
	return room
}

func taskUntouched(room, x api.Task) bool {
	for i, f := range x.Proofs {
		if !untouched(room.Proofs[i].Parts, f.Parts, partMark()) {
			return false
		}
	}
	for _, f := range room.Proofs[len(x.Proofs) : len(x.Proofs)+80] {
		if f.N != wholeWord || f.Root != wholeWord || f.Parts != nil {
			return false
		}
	}
	return sameTask(room, x) && untouched(room.M.Cells, x.M.Cells, wholeWord) && untouched(room.N.Cells, x.N.Cells, wholeWord) && untouched(room.B, x.B, wholeWord)
}

// What is handed in isn't changed, nor its spare room, nor is it told; and what was told is told again.
func TestMemory(t *testing.T) {
	overMats(12, func(p uint64, m api.Mat, d *dice) {
		for _, x := range of(d, p, m, 1) {
			room := roomyTask(x)
			want := answer(t, x)
			for range 2 {
				if got := answer(t, room); !slices.Equal(got, want) {
					t.Fatalf("Answer(%v): %v, not %v", x, got, want)
				} else {
					spoil(got, wholeWord)
				}
				if !task.Right(room) || task.Draws(room) != slowDraws(x) || task.Numbers(room) != len(m.Cells)+len(x.N.Cells)+len(x.B) || !taskUntouched(room, x) {
					t.Fatalf("%v is changed: %v", x, room)
				}
			}
		}
	})
}

func TestPlainMemory(t *testing.T) {
	overMats(13, func(p uint64, m api.Mat, d *dice) {
		room := api.Mat{Rows: m.Rows, Cols: m.Cols, Cells: roomy(m.Cells, wholeWord)}
		for range 2 {
			plainHolds(t, api.Rank, p, room)
			x, _ := task.Plain(api.Rank, p, room)
			spoil(x.M.Cells, wholeWord)
			for _, f := range x.Proofs {
				spoil(f.Parts, partMark())
			}
			spoil(x.Proofs, proofMark())
			if !untouched(room.Cells, m.Cells, wholeWord) {
				t.Fatalf("Plain(3, %d, %v) changed it, or told it: %v", p, m, room)
			}
		}
	})
	// Nor is it kept: what is handed in may change later.
	m := mat([]uint64{1, 2}, []uint64{3, 4})
	x, _ := task.Plain(api.Det, 7, m)
	m.Cells[0] = 0
	if a := answer(t, x); !slices.Equal(a, []uint64{5}) {
		t.Error(a)
	}
}

// One list may stand in more than one place.
func TestOneForAll(t *testing.T) {
	cells := []uint64{1, 2, 3, 4}
	m := api.Mat{Rows: 2, Cols: 2, Cells: cells}
	if a := answer(t, product(7, m, m)); !slices.Equal(a, []uint64{0, 3, 1, 1}) || !slices.Equal(cells, []uint64{1, 2, 3, 4}) {
		t.Error(a)
	}
	if a := answer(t, solving(7, m, cells[1:3])); !slices.Equal(a, []uint64{1}) || !slices.Equal(cells, []uint64{1, 2, 3, 4}) {
		t.Error(a)
	}
}
