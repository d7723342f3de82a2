package claim_test

import (
	"math"
	"math/big"
	"math/bits"
	"slices"

	"affidavit/api"
	"affidavit/prime"
)

const (
	greatest  = math.MaxInt64  // the greatest modulus
	shown     = greatest - 300 // the greatest prime that layer 2 builds a list for
	beyond    = api.MostPrime  // the least that is too great
	mersenne  = 1<<61 - 1      // a prime
	halfWord  = 1<<32 - 5      // the greatest prime of 32 bits
	wholeWord = math.MaxUint64
)

func primes() []uint64 { return []uint64{2, 3, 5, 7, 101, 65537, halfWord, mersenne, shown} }

func kinds() []int {
	return []int{api.Product, api.Singular, api.Rank, api.Profile, api.Det, api.Minimal, api.Solving}
}

// dice makes numbers that look like chance and are the same each time.
type dice uint64

func (d *dice) word() uint64 {
	*d ^= *d << 13
	*d ^= *d >> 7
	*d ^= *d << 17
	return uint64(*d)
}

func (d *dice) below(n int) int { return int(d.word() % uint64(n)) }

// list of just so many numbers, noughts and the greatest now and then.
func (d *dice) list(p uint64, many int) []uint64 {
	l := make([]uint64, many)
	for i := range l {
		switch d.word() % 6 {
		case 0:
		case 1:
			l[i] = p - 1
		default:
			l[i] = d.word() % p
		}
	}
	return l
}

// other list, by one number.
func (d *dice) other(p uint64, l []uint64) []uint64 {
	l = slices.Clone(l)
	i := d.below(len(l))
	l[i] = (l[i] + 1 + d.word()%(p-1)) % p
	return l
}

func (d *dice) mat(p uint64, rows, cols int) api.Mat {
	return api.Mat{Rows: rows, Cols: cols, Cells: d.list(p, rows*cols)}
}

// poor is a matrix of no more than so great a rank.
func (d *dice) poor(p uint64, rows, cols, rank int) api.Mat {
	if rank == 0 {
		return noughts(rows, cols)
	}
	return times(p, d.mat(p, rows, rank), d.mat(p, rank, cols))
}

// tape of words of any kind, the greatest now and then.
func (d *dice) tape(many int) api.Tape {
	words := make([]uint64, many)
	for i := range words {
		words[i] = d.word()
		if d.below(7) == 0 {
			words[i] = wholeWord
		}
	}
	return api.Tape{Words: words}
}

// mat of rows that are written out.
func mat(rows ...[]uint64) api.Mat {
	return api.Mat{Rows: len(rows), Cols: len(rows[0]), Cells: slices.Concat(rows...)}
}

func noughts(rows, cols int) api.Mat {
	return api.Mat{Rows: rows, Cols: cols, Cells: make([]uint64, rows*cols)}
}

// unit matrix: 1 where row and column are one.
func unit(n int) api.Mat {
	m := noughts(n, n)
	for i := range n {
		m.Cells[i*n+i] = 1
	}
	return m
}

// allLists of so many numbers below most.
func allLists(most uint64, many int) [][]uint64 {
	all := [][]uint64{nil}
	for range many {
		var longer [][]uint64
		for _, l := range all {
			for x := range most {
				longer = append(longer, append(slices.Clone(l), x))
			}
		}
		all = longer
	}
	return all
}

func allMats(p uint64, rows, cols int) []api.Mat {
	var l []api.Mat
	for _, cells := range allLists(p, rows*cols) {
		l = append(l, api.Mat{Rows: rows, Cols: cols, Cells: cells})
	}
	return l
}

// proofs of a prime by layer 2, that has its own tests; none, if it isn't one.
func proofs(p uint64) []api.Proof {
	l, _ := prime.Build(p)
	return l
}

// plain task of a kind that asks for M alone.
func plain(kind int, p uint64, m api.Mat) api.Task {
	return api.Task{Kind: kind, P: p, Proofs: proofs(p), M: m}
}

func product(p uint64, m, n api.Mat) api.Task {
	t := plain(api.Product, p, m)
	t.N = n
	return t
}

func solving(p uint64, m api.Mat, b []uint64) api.Task {
	t := plain(api.Solving, p, m)
	t.B = b
	return t
}

// of each kind that may be asked of M, a task: with a matrix of so many columns, a right side, and one that M makes, beside it.
func of(d *dice, p uint64, m api.Mat, cols int) []api.Task {
	made := done(p, m, d.list(p, m.Cols))
	l := []api.Task{product(p, m, d.mat(p, m.Cols, cols)), solving(p, m, d.list(p, m.Rows)), solving(p, m, made), plain(api.Rank, p, m), plain(api.Profile, p, m)}
	if m.Rows == m.Cols {
		l = append(l, plain(api.Singular, p, m), plain(api.Det, p, m))
	}
	if m.Rows == m.Cols && p > uint64(4*m.Rows+1) {
		l = append(l, plain(api.Minimal, p, m))
	}
	return l
}

// The slow ways: by products of two words and what is left of them, number by number, modulo primes.

func mul(p, a, b uint64) uint64 {
	high, low := bits.Mul64(a, b)
	return bits.Rem64(high, low, p)
}

// sum of two numbers below 2^63.
func sum(p, a, b uint64) uint64 { return (a + b) % p }

func negative(p, a uint64) uint64 { return (p - a) % p }

func inverse(p, a uint64) uint64 {
	return new(big.Int).ModInverse(new(big.Int).SetUint64(a), new(big.Int).SetUint64(p)).Uint64()
}

func dot(p uint64, a, b []uint64) uint64 {
	s := uint64(0)
	for i, x := range a {
		s = sum(p, s, mul(p, x, b[i]))
	}
	return s
}

// times: the product of two matrices.
func times(p uint64, a, b api.Mat) api.Mat {
	m := noughts(a.Rows, b.Cols)
	for i := range a.Rows {
		for j := range b.Cols {
			for k := range a.Cols {
				m.Cells[i*b.Cols+j] = sum(p, m.Cells[i*b.Cols+j], mul(p, a.Cells[i*a.Cols+k], b.Cells[k*b.Cols+j]))
			}
		}
	}
	return m
}

// done to a vector.
func done(p uint64, m api.Mat, x []uint64) []uint64 {
	return times(p, m, api.Mat{Rows: m.Cols, Cols: 1, Cells: x}).Cells
}

// doneLeft: a vector times a matrix.
func doneLeft(p uint64, y []uint64, m api.Mat) []uint64 {
	return times(p, api.Mat{Rows: 1, Cols: m.Rows, Cells: y}, m).Cells
}

func isNot0(x uint64) bool { return x != 0 }

func zero(l []uint64) bool { return !slices.ContainsFunc(l, isNot0) }

// numbers of p, just so many?
func numbers(p uint64, l []uint64, many int) bool {
	return len(l) == many && !slices.ContainsFunc(l, func(x uint64) bool { return x >= p })
}

// The polynomials, the power 0 first.

func rightPoly(p uint64, f []uint64) bool {
	return numbers(p, f, len(f)) && (len(f) == 0 || f[len(f)-1] != 0)
}

func trimmed(f []uint64) []uint64 {
	for len(f) > 0 && f[len(f)-1] == 0 {
		f = f[:len(f)-1]
	}
	return f
}

func mulPoly(p uint64, f, g []uint64) []uint64 {
	l := make([]uint64, len(f)+len(g))
	for i, x := range f {
		for j, y := range g {
			l[i+j] = sum(p, l[i+j], mul(p, x, y))
		}
	}
	return trimmed(l)
}

func plus(p uint64, f, g []uint64) []uint64 {
	l := make([]uint64, max(len(f), len(g)))
	copy(l, f)
	for i, x := range g {
		l[i] = sum(p, l[i], x)
	}
	return trimmed(l)
}

func at(p uint64, f []uint64, z uint64) uint64 {
	value, power := uint64(0), uint64(1)
	for _, x := range f {
		value, power = sum(p, value, mul(p, x, power)), mul(p, power, z)
	}
	return value
}

// polyDone: a polynomial of a matrix, done to a vector.
func polyDone(p uint64, f []uint64, m api.Mat, x []uint64) []uint64 {
	made, power := make([]uint64, len(x)), slices.Clone(x)
	for _, number := range f {
		for i := range made {
			made[i] = sum(p, made[i], mul(p, number, power[i]))
		}
		power = done(p, m, power)
	}
	return made
}

// reading of a claim: what the chapter's words say of it.
type reading struct {
	formed      bool
	says        []uint64
	asked, cost int
	passes      func(ask, reply []uint64) bool // a challenge of as many numbers of P as there must be
}

func (r reading) pass(p uint64, ask, reply []uint64) bool {
	return r.formed && numbers(p, ask, r.asked) && r.passes(ask, reply)
}

func noReply(_, reply []uint64) bool { return len(reply) == 0 }

// read a claim of a task that is right.
func read(t api.Task, c []uint64) reading {
	switch t.Kind {
	case api.Product:
		return readProduct(t, c)
	case api.Singular:
		return readSingular(t, c)
	case api.Solving:
		return readSolving(t, c)
	case api.Minimal:
		return readMinimal(t, c)
	}
	return readApart(t, c)
}

func readProduct(t api.Task, c []uint64) reading {
	if !numbers(t.P, c, t.M.Rows*t.N.Cols) {
		return reading{}
	}
	claimed := api.Mat{Rows: t.M.Rows, Cols: t.N.Cols, Cells: c}
	cost := len(t.M.Cells) + len(t.N.Cells) + len(c)
	return reading{true, c, t.N.Cols, cost, func(ask, reply []uint64) bool {
		return len(reply) == 0 && slices.Equal(done(t.P, t.M, done(t.P, t.N, ask)), done(t.P, claimed, ask))
	}}
}

func readSingular(t api.Task, c []uint64) reading {
	n := t.M.Rows
	switch {
	case slices.Equal(c, []uint64{0}):
		return reading{true, c, n, n * n, func(ask, reply []uint64) bool {
			return numbers(t.P, reply, n) && slices.Equal(done(t.P, t.M, reply), ask)
		}}
	case len(c) == n+1 && c[0] == 1 && numbers(t.P, c, n+1) && !zero(c[1:]) && zero(done(t.P, t.M, c[1:])):
		return reading{true, c[:1], 0, n * n, noReply}
	}
	return reading{}
}

func readSolving(t api.Task, c []uint64) reading {
	rows, cols := t.M.Rows, t.M.Cols
	switch {
	case len(c) == cols+1 && c[0] == 1 && numbers(t.P, c[1:], cols) && slices.Equal(done(t.P, t.M, c[1:]), t.B):
		return reading{true, c[:1], 0, rows * cols, noReply}
	case len(c) == rows+1 && c[0] == 0 && numbers(t.P, c, rows+1) && zero(doneLeft(t.P, c[1:], t.M)) && dot(t.P, c[1:], t.B) != 0:
		return reading{true, c[:1], 0, rows*cols + rows, noReply}
	}
	return reading{}
}

// parts of a matrix that was taken apart, as they stand in a claim.
type parts struct {
	rows, cols []uint64
	c, u       [][]uint64
}

func readParts(t api.Task, l []uint64) (parts, bool) {
	rows, cols := t.M.Rows, t.M.Cols
	if len(l) == 0 || l[0] > uint64(min(rows, cols)) || len(l) != 1+int(l[0])*(2+rows+cols) {
		return parts{}, false
	}
	r := int(l[0])
	take := func(many int) []uint64 {
		taken := l[:many]
		l = l[many:]
		return taken
	}
	take(1)
	s := parts{rows: take(r), cols: take(r)}
	for range rows {
		s.c = append(s.c, take(r))
	}
	for range r {
		s.u = append(s.u, take(cols))
	}
	return s, hasShape(t, s)
}

// hasShape goes through the words of chapter 13.
func hasShape(t api.Task, s parts) bool {
	for k, row := range s.rows {
		column := s.cols[k]
		if row >= uint64(t.M.Rows) || column >= uint64(t.M.Cols) || k > 0 && s.rows[k-1] >= row || slices.Contains(s.cols[:k], column) {
			return false
		}
		if !zero(s.u[k][:column]) || s.u[k][column] == 0 || s.c[row][k] != 1 {
			return false
		}
		for _, seen := range s.cols[:k] {
			if s.u[k][seen] != 0 {
				return false
			}
		}
		for _, ahead := range s.c[:row] {
			if ahead[k] != 0 {
				return false
			}
		}
	}
	all := slices.Concat(slices.Concat(s.c...), slices.Concat(s.u...))
	return numbers(t.P, all, len(all))
}

// made of the parts.
func (s parts) made(p uint64, x []uint64) []uint64 {
	var rests, l []uint64
	for _, rest := range s.u {
		rests = append(rests, dot(p, rest, x))
	}
	for _, row := range s.c {
		l = append(l, dot(p, row, rests))
	}
	return l
}

func (s parts) det(p uint64) uint64 {
	if len(s.rows) < len(s.c) {
		return 0
	}
	d := uint64(1)
	for k, column := range s.cols {
		d = mul(p, d, s.u[k][column])
		for _, ahead := range s.cols[:k] {
			if ahead > column {
				d = negative(p, d)
			}
		}
	}
	return d
}

func readApart(t api.Task, c []uint64) reading {
	s, ok := readParts(t, c)
	if !ok {
		return reading{}
	}
	r := len(s.rows)
	says := []uint64{uint64(r)}
	switch t.Kind {
	case api.Profile:
		says = s.rows
	case api.Det:
		says = []uint64{s.det(t.P)}
	}
	cost := t.M.Rows*t.M.Cols + r*t.M.Rows + r*t.M.Cols
	return reading{true, says, t.M.Cols, cost, func(ask, reply []uint64) bool {
		return len(reply) == 0 && slices.Equal(done(t.P, t.M, ask), s.made(t.P, ask))
	}}
}

// readOwn goes through the words of chapter 15.
func readOwn(p uint64, n int, l []uint64) (api.Own, bool) {
	if len(l) < 4 || slices.Max(l[:4]) > 512 {
		return api.Own{}, false
	}
	many, rest := append(slices.Clone(l[:4]), uint64(n), uint64(n)), l[4:]
	var lists [][]uint64
	for _, k := range many {
		if uint64(len(rest)) < k {
			return api.Own{}, false
		}
		lists, rest = append(lists, rest[:k]), rest[k:]
	}
	c := api.Own{F: lists[0], H: lists[1], S: lists[2], T: lists[3], U: lists[4], V: lists[5]}
	degree := len(c.F) - 1
	if len(rest) > 0 || !numbers(p, c.U, n) || !numbers(p, c.V, n) || degree < 1 || degree > n || c.F[degree] != 1 {
		return api.Own{}, false
	}
	for _, f := range lists[:4] {
		if !rightPoly(p, f) {
			return api.Own{}, false
		}
	}
	if len(c.H)-1 >= degree || len(c.S)-1 >= degree || len(c.T)-1 > degree {
		return api.Own{}, false
	}
	return c, slices.Equal(plus(p, mulPoly(p, c.S, c.F), mulPoly(p, c.T, c.H)), []uint64{1})
}

func readMinimal(t api.Task, l []uint64) reading {
	n := t.M.Rows
	c, ok := readOwn(t.P, n, l)
	if !ok {
		return reading{}
	}
	cost := (len(c.F)+1)*n*n + n + n + len(c.F) + len(c.F)
	return reading{true, c.F, 1 + n, cost, func(ask, w []uint64) bool {
		if !numbers(t.P, w, n) || !zero(polyDone(t.P, c.F, t.M, ask[1:])) {
			return false
		}
		z, made := ask[0], done(t.P, t.M, w)
		for i := range w {
			if sum(t.P, mul(t.P, z, w[i]), negative(t.P, made[i])) != c.V[i] {
				return false
			}
		}
		return mul(t.P, dot(t.P, c.U, w), at(t.P, c.F, z)) == at(t.P, c.H, z)
	}}
}
