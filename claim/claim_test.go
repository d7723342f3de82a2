package claim_test

import (
	"math"
	"slices"
	"testing"

	"affidavit/api"
	"affidavit/claim"
	"affidavit/cup"
	"affidavit/own"
	"affidavit/poly"
	"affidavit/shape"
	"affidavit/solve"
	"affidavit/tape"
	"affidavit/task"
)

func sameTape(a, b api.Tape) bool { return a.At == b.At && slices.Equal(a.Words, b.Words) }

// holds tells what the words say of a claim of a task that is right, and asks all that may be asked of it alone.
func holds(t *testing.T, x api.Task, c []uint64, a api.Tape) reading {
	t.Helper()
	r := read(x, c)
	says, ok := claim.Says(x, c)
	if ok != r.formed || !slices.Equal(says, r.says) {
		t.Fatalf("Says(%v, %v): %v, %v, not %v, %v", x, c, says, ok, r.says, r.formed)
	}
	asked, cost := claim.Asked(x, c), claim.Cost(x, c)
	if asked != r.asked || cost != r.cost {
		t.Fatalf("of %v, %v: asked %d, cost %d, not %d, %d", x, c, asked, cost, r.asked, r.cost)
	}
	ask, b, e := claim.Ask(x, c, a)
	want, behind, wanted := []uint64(nil), a, api.ErrArg
	if r.formed {
		want, behind, wanted = tape.Many(x.P, a, r.asked)
	}
	if e != wanted || !slices.Equal(ask, want) || !sameTape(b, behind) {
		t.Fatalf("Ask(%v, %v, %v): %v, %v, %d, not %v, %v, %d", x, c, a, ask, b, e, want, behind, wanted)
	}
	if !r.formed {
		formless(t, x, c)
	}
	return r
}

// formless claims, or those of a task that isn't right, pass by nothing, and are replied nothing.
func formless(t *testing.T, x api.Task, c []uint64) {
	t.Helper()
	for _, many := range []int{0, 1, x.M.Rows, x.M.Cols, x.N.Cols, x.M.Rows + 1} {
		if many < 0 || many > 65 {
			continue
		}
		ask := make([]uint64, many)
		for _, reply := range [][]uint64{nil, {0}, ask} {
			if claim.Pass(x, c, ask, reply) {
				t.Fatalf("Pass(%v, %v, %v, %v): true", x, c, ask, reply)
			}
		}
		if w, e := claim.Reply(x, c, ask); e != api.ErrArg || len(w) != 0 {
			t.Fatalf("Reply(%v, %v, %v): %v, %d", x, c, ask, w, e)
		}
	}
}

// passes as the words say, a claim of which r is the reading.
func passes(t *testing.T, x api.Task, c []uint64, r reading, ask, reply []uint64) bool {
	t.Helper()
	want := r.pass(x.P, ask, reply)
	if claim.Pass(x, c, ask, reply) != want {
		t.Fatalf("Pass(%v, %v, %v, %v): %v", x, c, ask, reply, !want)
	}
	return want
}

// made claim of a task that is right; of Minimal by a tape that is long enough.
func made(t *testing.T, x api.Task, d *dice) []uint64 {
	t.Helper()
	c, _, e := claim.Make(x, d.tape(400+20*x.M.Rows))
	if e != api.OK {
		t.Fatalf("Make(%v): %d", x, e)
	}
	return c
}

func replied(t *testing.T, x api.Task, c, ask []uint64) []uint64 {
	t.Helper()
	w, e := claim.Reply(x, c, ask)
	if e != api.OK {
		t.Fatalf("Reply(%v, %v, %v): %d", x, c, ask, e)
	}
	return w
}

func answer(t *testing.T, x api.Task) []uint64 {
	t.Helper()
	a, e := task.Answer(x)
	if e != api.OK {
		t.Fatalf("Answer(%v): %d", x, e)
	}
	return a
}

// numbersOf what a matrix was taken apart into.
func numbersOf(c api.Cup) []uint64 {
	l := []uint64{uint64(len(c.Rows))}
	for _, name := range append(slices.Clone(c.Rows), c.Cols...) {
		l = append(l, uint64(name))
	}
	return slices.Concat(l, slices.Concat(c.C...), slices.Concat(c.U...))
}

// lying claim of the shape, of a task of which c is a claim: it says of other matrices, or what isn't so.
func lying(d *dice, x api.Task, c []uint64) []uint64 {
	switch x.Kind {
	case api.Product:
		return d.other(x.P, c)
	case api.Singular:
		return []uint64{0}
	case api.Rank, api.Profile, api.Det:
		n, _ := cup.Take(x.P, d.poor(x.P, x.M.Rows, x.M.Cols, d.below(min(x.M.Rows, x.M.Cols)+1)))
		return numbersOf(n)
	case api.Minimal:
		return ownClaim(d, x.P, x.M.Rows)
	}
	return c
}

// ownClaim of the shape, of any F and H.
func ownClaim(d *dice, p uint64, n int) []uint64 {
	f := append(d.list(p, 1+d.below(n)), 1)
	h := trimmed(d.list(p, len(f)-1))
	_, s, k, e := poly.Bezout(p, f, h)
	if both, _ := poly.Gcd(p, f, h); e != api.OK || len(both) != 1 {
		h, s, k = []uint64{1}, nil, []uint64{1}
	}
	// As many times H more in S, and F less in T, make 1 as well.
	many := d.list(p, 1)
	s, k = plus(p, s, mulPoly(p, many, h)), plus(p, k, mulPoly(p, []uint64{negative(p, many[0])}, f))
	return numbersOfOwn(api.Own{F: f, H: h, S: s, T: k, U: d.list(p, n), V: d.list(p, n)})
}

func numbersOfOwn(c api.Own) []uint64 {
	l := []uint64{uint64(len(c.F)), uint64(len(c.H)), uint64(len(c.S)), uint64(len(c.T))}
	return slices.Concat(l, c.F, c.H, c.S, c.T, c.U, c.V)
}

// overMats goes through matrices modulo all the primes, of many shapes and ranks.
func overMats(seed uint64, f func(p uint64, m api.Mat, d *dice)) {
	d := dice(seed)
	for _, p := range primes() {
		for _, s := range [][2]int{{1, 1}, {2, 2}, {3, 3}, {4, 4}, {7, 7}, {1, 9}, {9, 1}, {3, 8}, {8, 3}, {1, 64}, {64, 1}} {
			least := min(s[0], s[1])
			for _, rank := range []int{0, 1, least - 1} {
				f(p, d.poor(p, s[0], s[1], max(0, rank)), &d)
			}
			f(p, d.mat(p, s[0], s[1]), &d)
		}
	}
}

// overTasks goes through tasks of all kinds, of such matrices.
func overTasks(seed uint64, f func(x api.Task, d *dice)) {
	overMats(seed, func(p uint64, m api.Mat, d *dice) {
		for _, x := range of(d, p, m, 1+d.below(4)) {
			f(x, d)
		}
	})
}

func known() (m, full, turns api.Mat) {
	return mat([]uint64{0, 2, 4}, []uint64{0, 4, 1}, []uint64{3, 0, 1}), // the row 1 is twice the row 0
		mat([]uint64{1, 2}, []uint64{0, 4}), mat([]uint64{0, 1}, []uint64{10, 0})
}

func TestP17_1Known(t *testing.T) {
	m, full, turns := known()
	apart := []uint64{2, 0, 2, 1, 0, 1, 0, 2, 0, 0, 1, 0, 2, 4, 3, 0, 1} // what m was taken apart into
	other := []uint64{1, 1, 1, 0, 1, 6, 0, 5, 1}                         // of (0 0 0; 0 5 1; 0 2 6)
	two := []uint64{2, 0, 1, 1, 0, 1, 0, 4, 1, 0, 2, 3, 0}               // of (0 2; 3 1)
	b, against := []uint64{2, 4, 6}, []uint64{2, 5, 6}
	for i, k := range []struct {
		t           api.Task
		c, says     []uint64
		asked, cost int
	}{
		{plain(api.Rank, 7, mat([]uint64{0, 2})), []uint64{1, 0, 1, 1, 0, 2}, []uint64{1}, 2, 5}, // the document's
		{plain(api.Profile, 7, mat([]uint64{0, 2})), []uint64{1, 0, 1, 1, 0, 2}, []uint64{0}, 2, 5},
		{product(7, m, mat([]uint64{1, 0}, []uint64{1, 1}, []uint64{1, 3})), []uint64{6, 0, 5, 0, 4, 3}, []uint64{6, 0, 5, 0, 4, 3}, 2, 21},
		{product(7, mat([]uint64{3}), mat([]uint64{3, 4})), []uint64{0, 0}, []uint64{0, 0}, 2, 5},
		{plain(api.Singular, 7, m), []uint64{1, 2, 5, 1}, []uint64{1}, 0, 9},
		{plain(api.Singular, 7, m), []uint64{1, 4, 3, 2}, []uint64{1}, 0, 9}, // twice that shows it as well
		{plain(api.Singular, 7, m), []uint64{0}, []uint64{0}, 3, 9},          // formed, but wrong
		{plain(api.Singular, 7, full), []uint64{0}, []uint64{0}, 2, 4},
		{plain(api.Rank, 7, m), apart, []uint64{2}, 3, 21},
		{plain(api.Profile, 7, m), apart, []uint64{0, 2}, 3, 21},
		{plain(api.Det, 7, m), apart, []uint64{0}, 3, 21},
		{plain(api.Rank, 7, m), other, []uint64{1}, 3, 15},
		{plain(api.Profile, 7, m), other, []uint64{1}, 3, 15},
		{plain(api.Det, 7, full), two, []uint64{1}, 2, 12},
		{plain(api.Rank, 7, full), two, []uint64{2}, 2, 12},
		{plain(api.Profile, 7, full), two, []uint64{0, 1}, 2, 12},
		{plain(api.Rank, 7, m), []uint64{0}, []uint64{0}, 3, 9},
		{plain(api.Profile, 7, m), []uint64{0}, nil, 3, 9},
		{plain(api.Det, 7, m), []uint64{0}, []uint64{0}, 3, 9},
		{plain(api.Minimal, 11, turns), []uint64{3, 1, 0, 1, 1, 0, 1, 1, 1, 1, 0, 0, 1}, []uint64{1, 0, 1}, 3, 26}, // x² + 1
		{plain(api.Minimal, 11, turns), []uint64{2, 1, 0, 1, 9, 1, 1, 1, 0, 0, 0, 0}, []uint64{9, 1}, 3, 20},       // x - 2
		{solving(7, m, b), []uint64{1, 2, 1, 0}, []uint64{1}, 0, 9},
		{solving(7, m, b), []uint64{1, 4, 6, 1}, []uint64{1}, 0, 9},
		{solving(7, m, against), []uint64{0, 5, 1, 0}, []uint64{0}, 0, 12},
		{solving(7, m, against), []uint64{0, 3, 2, 0}, []uint64{0}, 0, 12},
		{solving(7, mat([]uint64{0}, []uint64{0}), []uint64{0, 3}), []uint64{0, 6, 1}, []uint64{0}, 0, 4},
		{solving(7, mat([]uint64{0, 0, 0}), []uint64{0}), []uint64{1, 0, 6, 1}, []uint64{1}, 0, 3},
	} {
		says, ok := claim.Says(k.t, k.c)
		asked, cost := claim.Asked(k.t, k.c), claim.Cost(k.t, k.c)
		if !ok || !slices.Equal(says, k.says) || asked != k.asked || cost != k.cost {
			t.Errorf("%d: of %v, %v: says %v, %v, asked %d, cost %d", i, k.t, k.c, says, ok, asked, cost)
		}
		a := api.Tape{Words: []uint64{wholeWord, 9, 100, 5, 8, 1}}
		holds(t, k.t, k.c, a)
		// Modulo 7 and 11, the greatest word doesn't count.
		want := []uint64{9 % k.t.P, 100 % k.t.P, 5}[:k.asked]
		ask, behind, e := claim.Ask(k.t, k.c, a)
		place := k.asked + 1
		if k.asked == 0 {
			place = 0
		}
		if e != api.OK || !slices.Equal(ask, want) || behind.At != place || !slices.Equal(behind.Words, a.Words) {
			t.Errorf("%d: Ask: %v, %v, %d", i, ask, behind, e)
		}
	}
}

func TestP17_1NotFormed(t *testing.T) {
	m, full, turns := known()
	b, against := []uint64{2, 4, 6}, []uint64{2, 5, 6}
	apart := []uint64{2, 0, 2, 1, 0, 1, 0, 2, 0, 0, 1, 0, 2, 4, 3, 0, 1}
	for _, k := range []struct {
		t api.Task
		l [][]uint64
	}{
		{product(7, full, full), [][]uint64{{1}, {1, 3, 0}, {1, 3, 0, 2, 0}, {1, 3, 0, 7}, {wholeWord, 3, 0, 2}, make([]uint64, 64)}},
		{plain(api.Singular, 7, m), [][]uint64{{1}, {2}, {0, 0}, {0, 0, 0, 0}, {0, 2, 5, 1}, {1, 0, 0, 0}, {1, 2, 5, 2}, {1, 2, 5}, {1, 2, 5, 1, 0}, {1, 9, 5, 1}, {1, 2, 5, 8}, {2, 2, 5, 1}, {8, 2, 5, 1}, {7}, {wholeWord}}},
		{plain(api.Singular, 7, full), [][]uint64{{1}, {1, 0, 0}, {1, 1, 1}, {1, 2, 6}, {0, 0, 0}}},
		{plain(api.Rank, 7, m), [][]uint64{
			{1}, {3}, {wholeWord}, {1 << 63}, {65}, {64}, {2}, {7}, {0, 0}, apart[:16], append(slices.Clone(apart), 0), {2, 2, 0, 1, 0, 0, 1, 2, 0, 1, 0, 0, 2, 4, 3, 0, 1},
			{1, 3, 1, 0, 0, 0, 0, 2, 4}, {1, wholeWord, 1, 1, 0, 0, 0, 2, 4}, {1, 0, 3, 1, 0, 0, 0, 2, 4}, {1, 0, wholeWord, 1, 0, 0, 0, 2, 4}, {1, 0, 2, 1, 0, 0, 0, 2, 4},
			{1, 0, 0, 1, 0, 0, 0, 2, 4}, {1, 0, 1, 2, 0, 0, 0, 2, 4}, {1, 1, 1, 1, 1, 0, 0, 2, 4}, {1, 0, 1, 1, 7, 0, 0, 2, 4}, {1, 0, 1, 1, 0, 0, 0, 2, 7}, {1, 0, 1, 1, 0, 0, 0, 0, 4},
		}},
		{plain(api.Minimal, 11, turns), [][]uint64{
			{0}, {0, 0, 0, 0}, {3, 1, 0, 1}, {wholeWord, 1, 0, 1}, {3, 1, 0, 1, 1, 0, 1, 1, 1, 1, 0, 0}, {3, 1, 0, 1, 1, 0, 1, 1, 1, 1, 0, 0, 1, 0}, {3, 1, 0, 1, 1, 0, 2, 1, 1, 1, 0, 0, 1}, // F isn't monic
			{3, 1, 0, 1, 1, 0, 1, 2, 1, 1, 0, 0, 1}, {3, 1, 0, 1, 1, 0, 1, 1, 1, 1, 0, 0, 11}, {3, 1, 0, 1, 12, 0, 1, 1, 1, 1, 0, 0, 1}, // 2 T isn't 1; no numbers of 11
			{4, 1, 0, 1, 1, 0, 1, 1, 1, 1, 1, 0, 0, 1}, {1, 0, 1, 0, 1, 1, 1, 0, 0, 1}, {2, 2, 0, 1, 1, 1, 0, 1, 1, 1, 0, 0, 1}, {3, 1, 0, 2, 1, 0, 1, 1, 1, 0, 1, 0, 0, 1}, // of degrees 3 and 0; noughts at the end
			{513, 1, 0, 1, 1},
		}},
		{solving(7, m, b), [][]uint64{{1}, {0}, {2}, {1, 2, 1}, {1, 2, 1, 0, 0}, {1, 2, 1, 1}, {1, 2, 8, 0}, {0, 2, 1, 0}, {2, 2, 1, 0}, {8, 2, 1, 0}, {0, 5, 1, 0}, {0, 0, 0, 0}, {1, 0, 0, 0}}},
		{solving(7, m, against), [][]uint64{{1}, {0}, {0, 5, 1}, {0, 5, 1, 0, 0}, {0, 5, 2, 0}, {0, 5, 8, 0}, {0, 0, 0, 0}, {1, 5, 1, 0}, {1, 2, 1, 0}, {7, 5, 1, 0}, {wholeWord, 5, 1, 0}}},
	} {
		for _, c := range append(k.l, nil, []uint64{}, make([]uint64, 5000)) {
			if holds(t, k.t, c, api.Tape{Words: []uint64{1, 2, 3, 4}}).formed {
				t.Errorf("%v of %v is formed", c, k.t)
			}
		}
	}
}

// All lists of few numbers, those of P and the one that is one too many, as claims. Of what a matrix is taken apart into as many are formed as there are matrices.
func TestP17_1All(t *testing.T) {
	a := api.Tape{Words: []uint64{3, 1, 2, 5, 4}}
	try := func(x api.Task, most uint64, ahead []uint64, many int) int {
		formed := 0
		for _, l := range allLists(most, many) {
			if holds(t, x, append(slices.Clone(ahead), l...), a).formed {
				formed++
			}
		}
		return formed
	}
	for _, k := range []struct {
		p          uint64
		rows, cols int
		most       int // numbers of a claim
	}{{2, 1, 1, 6}, {3, 1, 1, 6}, {5, 1, 1, 5}, {2, 1, 2, 6}, {2, 2, 1, 6}} {
		m := api.Mat{Rows: k.rows, Cols: k.cols, Cells: slices.Repeat([]uint64{k.p - 1}, k.rows*k.cols)}
		formed := 0
		for many := range k.most + 1 {
			formed += try(plain(api.Rank, k.p, m), k.p+1, nil, many)
		}
		if want := len(allMats(k.p, k.rows, k.cols)); formed != want {
			t.Errorf("modulo %d, of %d by %d: %d are formed, not %d", k.p, k.rows, k.cols, formed, want)
		}
	}
	wide := noughts(2, 2)
	if formed := try(plain(api.Det, 2, wide), 3, []uint64{1}, 6) + try(plain(api.Det, 2, wide), 2, []uint64{2}, 12) + 1; formed != 16 {
		t.Errorf("of 2 by 2: %d are formed, not 16", formed)
	}
	for _, s := range [][2]int{{1, 1}, {1, 2}, {2, 1}, {2, 2}} {
		for _, m := range allMats(2, s[0], s[1]) {
			for many := range 5 {
				for _, b := range allLists(2, s[0]) {
					try(solving(2, m, b), 3, nil, many)
				}
				try(product(2, m, noughts(s[1], 2)), 3, nil, many)
				if s[0] == s[1] {
					try(plain(api.Singular, 2, m), 3, nil, many)
				}
			}
		}
	}
}

// All challenges, with all replies, of claims of little matrices, right or not: also of numbers too few or too many, and of what is no number of P.
func TestP17_1PassAll(t *testing.T) {
	d := dice(1)
	told := map[[2]int]int{}
	for _, s := range [][3]int{{2, 1, 1}, {3, 1, 1}, {7, 1, 1}, {2, 1, 2}, {2, 2, 1}, {2, 2, 2}} {
		p := uint64(s[0])
		for _, m := range allMats(p, s[1], s[2]) {
			for _, x := range of(&d, p, m, 1) {
				c := made(t, x, &d)
				for _, c := range [][]uint64{c, lying(&d, x, c)} {
					r := holds(t, x, c, api.Tape{})
					for i, ask := range all(p, 3) {
						for j, reply := range all(p, 3) {
							if len(reply) < 3 && (p < 7 || (i+j)%3 == 0 || len(ask) < 2) { // a part of the most will do
								told[[2]int{x.Kind, int(oneIf(passes(t, x, c, r, ask, reply)))}]++
							}
						}
					}
				}
			}
		}
	}
	for _, kind := range kinds() {
		if told[[2]int{kind, 0}] == 0 || told[[2]int{kind, 1}] == 0 {
			t.Error(kind, told)
		}
	}
}

// all lists below so many numbers, of those of p and p itself.
func all(p uint64, below int) [][]uint64 {
	var l [][]uint64
	for many := range below {
		l = append(l, allLists(p+1, many)...)
	}
	if p < 5 {
		l = append(l, allLists(p, below)...)
	}
	return l
}

func oneIf(holds bool) uint64 {
	if holds {
		return 1
	}
	return 0
}

// spoilt lists: each number changed, one left away, one more.
func spoilt(p uint64, l []uint64) [][]uint64 {
	var all [][]uint64
	for i, was := range l {
		for _, number := range []uint64{sum(p, was%p, 1), negative(p, was%p), 0, p - 1, p, p + was, wholeWord, beyond} {
			if number != was {
				s := slices.Clone(l)
				s[i] = number
				all = append(all, s)
			}
		}
		all = append(all, slices.Delete(slices.Clone(l), i, i+1), slices.Insert(slices.Clone(l), i, 0))
	}
	return append(all, append(slices.Clone(l), 0), append(slices.Clone(l), 1))
}

// Each number of a claim is changed, or the claim made longer or shorter.
func TestP17_1Spoilt(t *testing.T) {
	d := dice(2)
	formed, not := 0, 0
	for _, p := range []uint64{2, 3, 13, shown} {
		for _, m := range []api.Mat{d.mat(p, 1, 1), d.mat(p, 2, 2), d.poor(p, 3, 3, 2), d.poor(p, 3, 2, 1), d.mat(p, 2, 3)} {
			for _, x := range of(&d, p, m, 2) {
				c := made(t, x, &d)
				for _, s := range slices.Concat(spoilt(p, c), spoilt(p, lying(&d, x, c))) {
					r := holds(t, x, s, d.tape(9))
					if !r.formed {
						not++
						continue
					}
					formed++
					for range 3 {
						ask := d.list(p, r.asked)
						w, _ := claim.Reply(x, s, ask)
						passes(t, x, s, r, ask, w)
					}
				}
			}
		}
	}
	if formed < 500 || not < 5000 {
		t.Error(formed, not)
	}
}

// Matrices of many shapes and ranks modulo all the primes: claims that are made, and others; challenges and replies that are right, and spoilt.
func TestP17_1More(t *testing.T) {
	overTasks(3, func(x api.Task, d *dice) {
		c := made(t, x, d)
		for _, c := range [][]uint64{c, lying(d, x, c)} {
			r := holds(t, x, c, d.tape(d.below(80)))
			if !r.formed {
				t.Fatalf("%v of %v isn't formed", c, x)
			}
			ask := d.list(x.P, r.asked)
			w, _ := claim.Reply(x, c, ask)
			passes(t, x, c, r, ask, w)
			if x.M.Rows > 8 || x.M.Cols > 8 {
				continue
			}
			for _, s := range spoilt(x.P, ask) {
				passes(t, x, c, r, s, w)
			}
			for _, s := range spoilt(x.P, w) {
				passes(t, x, c, r, ask, s)
			}
			passes(t, x, c, r, w, ask)
			passes(t, x, c, r, nil, nil)
		}
	})
}

// The greatest sides, modulo the least prime, the least above 4 times 64 and 1, and the greatest that is shown.
func TestP17_1Greatest(t *testing.T) {
	d := dice(4)
	for _, p := range []uint64{2, 263, shown} {
		for _, m := range []api.Mat{d.mat(p, 64, 64), d.poor(p, 64, 64, 63)} {
			for _, x := range of(&d, p, m, 64) {
				c := made(t, x, &d)
				r := holds(t, x, c, d.tape(300))
				ask, _, _ := claim.Ask(x, c, d.tape(300))
				if len(ask) != r.asked || !slices.Equal(r.says, answer(t, x)) {
					t.Fatalf("modulo %d, %d: %v", p, x.Kind, ask)
				}
				if w, e := claim.Reply(x, c, ask); e == api.OK && (x.Kind != api.Minimal || at(p, r.says, ask[0]) != 0) && !passes(t, x, c, r, ask, w) {
					t.Fatalf("modulo %d, %d doesn't pass", p, x.Kind)
				}
			}
		}
	}
}

// wrongTasks that aren't right, with a claim that would be formed of the right one.
func wrongTasks(t *testing.T) (tasks []api.Task, claims [][]uint64) {
	d := dice(5)
	for _, x := range of(&d, 101, d.poor(101, 3, 3, 2), 2) {
		c := made(t, x, &d)
		for _, do := range []func(x *api.Task){
			func(x *api.Task) { x.Kind = 0 }, func(x *api.Task) { x.Kind = 8 }, func(x *api.Task) { x.Kind = -1 }, func(x *api.Task) { x.Kind = math.MinInt }, func(x *api.Task) { x.Kind = math.MaxInt },
			func(x *api.Task) { x.P = 0 }, func(x *api.Task) { x.P = 1 }, func(x *api.Task) { x.P = 103 }, func(x *api.Task) { x.P = beyond }, func(x *api.Task) { x.P = wholeWord }, func(x *api.Task) { x.P = 7 },
			func(x *api.Task) { x.Proofs = nil }, func(x *api.Task) { x.Proofs[0].Root = 0 }, func(x *api.Task) { x.Proofs = slices.Repeat(x.Proofs, 100) },
			func(x *api.Task) { x.M = api.Mat{} }, func(x *api.Task) { x.M.Cells = x.M.Cells[1:] }, func(x *api.Task) { x.M.Cells = nil }, func(x *api.Task) { x.M.Cells[8] = 101 },
			func(x *api.Task) { x.M.Rows = 0 }, func(x *api.Task) { x.M.Rows, x.M.Cols = 65, 65 }, func(x *api.Task) { x.M.Rows = math.MaxInt }, func(x *api.Task) { x.M.Cols = -3; x.M.Rows = -3 },
			func(x *api.Task) { x.N = api.Mat{Rows: 4, Cols: 2, Cells: make([]uint64, 8)} }, func(x *api.Task) { x.B = []uint64{1, 2} }, func(x *api.Task) { x.B = []uint64{1, 2, 101} },
		} {
			wrong := x
			wrong.Proofs, wrong.M.Cells = proofs(101), slices.Clone(x.M.Cells)
			if do(&wrong); task.Right(wrong) {
				t.Fatal(wrong)
			}
			tasks, claims = append(tasks, wrong), append(claims, c)
		}
	}
	return append(tasks, api.Task{}, api.Task{}, plain(api.Minimal, 13, noughts(3, 3))), append(claims, nil, []uint64{0}, nil)
}

// wrongTapes that aren't right.
func wrongTapes() []api.Tape {
	return []api.Tape{{At: 1}, {At: -1}, {Words: []uint64{1, 2}, At: 3}, {Words: []uint64{1, 2}, At: -1}, {Words: []uint64{1, 2}, At: math.MaxInt}, {Words: []uint64{1}, At: math.MinInt}, {Words: make([]uint64, api.MaxWords+1)}, {Words: make([]uint64, api.MaxWords+1), At: 5}}
}

func TestP17_1WrongTask(t *testing.T) {
	tasks, claims := wrongTasks(t)
	for i, x := range tasks {
		for _, c := range [][]uint64{claims[i], nil, {0}, {1}} {
			says, ok := claim.Says(x, c)
			if ok || len(says) != 0 || claim.Asked(x, c) != 0 || claim.Cost(x, c) != 0 {
				t.Fatalf("of %v, which isn't right, %v: says %v, %v, asked %d, cost %d", x, c, says, ok, claim.Asked(x, c), claim.Cost(x, c))
			}
			formless(t, x, c)
			for _, a := range append(wrongTapes()[:6], api.Tape{}, api.Tape{Words: make([]uint64, 500), At: 2}) {
				if ask, b, e := claim.Ask(x, c, a); e != api.ErrArg || len(ask) != 0 || !sameTape(a, b) {
					t.Fatalf("Ask(%v, %v, %v): %v, %v, %d", x, c, a, ask, b, e)
				}
				if l, b, e := claim.Make(x, a); e != api.ErrArg || len(l) != 0 || !sameTape(a, b) {
					t.Fatalf("Make(%v, %v): %v, %v, %d", x, a, l, b, e)
				}
			}
		}
	}
}

// A tape that isn't right, also where nothing is drawn from it; and one that is at its end.
func TestP17_1Tape(t *testing.T) {
	d := dice(6)
	for _, p := range []uint64{7, 101, shown} {
		for _, x := range of(&d, p, d.mat(p, 1, 1), 1) {
			c := made(t, x, &d)
			for _, a := range wrongTapes() {
				if ask, b, e := claim.Ask(x, c, a); e != api.ErrArg || len(ask) != 0 || !sameTape(a, b) {
					t.Errorf("Ask(%v, %v): %v, %d, at %d", x, c, ask, e, b.At)
				}
				if l, b, e := claim.Make(x, a); e != api.ErrArg || len(l) != 0 || !sameTape(a, b) {
					t.Errorf("Make(%v): %v, %d, at %d", x, l, e, b.At)
				}
			}
			asked := claim.Asked(x, c)
			a := d.tape(20)
			for len(a.Words) > 0 {
				want := api.OK
				if tape.Left(p, a) < asked {
					want = api.ErrTape
				}
				holds(t, x, c, a)
				ask, b, e := claim.Ask(x, c, a)
				if e != want || e == api.OK && len(ask) != asked || e != api.OK && (len(ask) != 0 || b.At != len(a.Words)) {
					t.Errorf("Ask(%v, %v, %v): %v, %v, %d", x, c, a, ask, b, e)
				}
				a.Words = a.Words[1:]
			}
		}
	}
	// Of a longest tape, from any place on.
	x := product(2, unit(64), unit(64))
	for _, place := range []int{0, 1, api.MaxWords - 65, api.MaxWords - 64, api.MaxWords - 63, api.MaxWords} {
		a := api.Tape{Words: slices.Repeat([]uint64{5}, api.MaxWords), At: place}
		ask, b, e := claim.Ask(x, unit(64).Cells, a)
		if place <= api.MaxWords-64 && (e != api.OK || b.At != place+64 || !slices.Equal(ask, slices.Repeat([]uint64{1}, 64))) {
			t.Error(place, ask, b.At, e)
		}
		if place > api.MaxWords-64 && (e != api.ErrTape || b.At != api.MaxWords || len(ask) != 0) {
			t.Error(place, ask, b.At, e)
		}
	}
}

// makes what the words say.
func makes(x api.Task, a api.Tape) ([]uint64, api.Tape, api.Errno) {
	switch x.Kind {
	case api.Product:
		return times(x.P, x.M, x.N).Cells, a, api.OK
	case api.Singular:
		if v, e := solve.Kernel(x.P, x.M); e == api.OK {
			return append([]uint64{1}, v...), a, api.OK
		}
		return []uint64{0}, a, api.OK
	case api.Solving:
		if v, e := solve.Solve(x.P, x.M, x.B); e == api.OK {
			return append([]uint64{1}, v...), a, api.OK
		}
		y, _ := solve.Against(x.P, x.M, x.B)
		return append([]uint64{0}, y...), a, api.OK
	case api.Minimal:
		return makesMinimal(x, a)
	}
	c, _ := cup.Take(x.P, x.M)
	return numbersOf(c), a, api.OK
}

func makesMinimal(x api.Task, a api.Tape) ([]uint64, api.Tape, api.Errno) {
	for range 64 {
		var u, v []uint64
		var e api.Errno
		if u, a, e = tape.Many(x.P, a, x.M.Rows); e != api.OK {
			return nil, a, e
		}
		if v, a, e = tape.Many(x.P, a, x.M.Rows); e != api.OK {
			return nil, a, e
		}
		if c, e := own.Make(x.P, x.M, u, v); e == api.OK {
			return numbersOfOwn(c), a, api.OK
		}
	}
	return nil, api.Tape{}, api.ErrNone
}

func makeHolds(t *testing.T, x api.Task, a api.Tape) ([]uint64, api.Errno) {
	t.Helper()
	want, behind, wanted := makes(x, a)
	c, b, e := claim.Make(x, a)
	if e != wanted || !slices.Equal(c, want) || !sameTape(b, behind) {
		t.Fatalf("Make(%v, %v): %v, %v, %d, not %v, %v, %d", x, a, c, b, e, want, behind, wanted)
	}
	return c, e
}

func TestP17_2Known(t *testing.T) {
	m, full, turns := known()
	a := api.Tape{Words: []uint64{9, 1, 0, 0, 12, 7}, At: 1}
	for i, k := range []struct {
		t    api.Task
		want []uint64
		at   int
	}{
		{product(7, full, full), []uint64{1, 3, 0, 2}, 1},
		{plain(api.Singular, 7, m), []uint64{1, 2, 5, 1}, 1},
		{plain(api.Singular, 7, full), []uint64{0}, 1},
		{plain(api.Rank, 7, mat([]uint64{0, 2})), []uint64{1, 0, 1, 1, 0, 2}, 1}, // the document's
		{plain(api.Rank, 7, m), []uint64{2, 0, 2, 1, 0, 1, 0, 2, 0, 0, 1, 0, 2, 4, 3, 0, 1}, 1},
		{plain(api.Profile, 7, m), []uint64{2, 0, 2, 1, 0, 1, 0, 2, 0, 0, 1, 0, 2, 4, 3, 0, 1}, 1},
		{plain(api.Det, 7, full), []uint64{2, 0, 1, 0, 1, 1, 0, 0, 1, 1, 2, 0, 4}, 1},
		{plain(api.Det, 7, noughts(2, 2)), []uint64{0}, 1},
		{plain(api.Minimal, 11, turns), []uint64{3, 1, 0, 1, 1, 0, 1, 1, 1, 1, 0, 0, 1}, 5}, // U 1, 0; V 0, 1
		{solving(7, m, []uint64{2, 4, 6}), []uint64{1, 2, 1, 0}, 1},
		{solving(7, m, []uint64{2, 5, 6}), []uint64{0, 5, 1, 0}, 1},
	} {
		c, b, e := claim.Make(k.t, a)
		if e != api.OK || !slices.Equal(c, k.want) || b.At != k.at || !slices.Equal(b.Words, a.Words) {
			t.Errorf("%d: Make(%v): %v, %v, %d, not %v", i, k.t, c, b, e, k.want)
		}
		makeHolds(t, k.t, a)
	}
}

func TestP17_2Make(t *testing.T) {
	d := dice(7)
	for _, s := range [][3]int{{2, 1, 1}, {2, 1, 3}, {2, 3, 1}, {2, 2, 2}, {2, 2, 3}, {2, 3, 2}, {3, 1, 2}, {3, 2, 1}, {3, 2, 2}, {5, 1, 2}, {7, 1, 1}, {11, 1, 1}} {
		for _, m := range allMats(uint64(s[0]), s[1], s[2]) {
			for _, x := range of(&d, uint64(s[0]), m, 1) {
				makeHolds(t, x, d.tape(d.below(40)))
			}
		}
	}
	told := map[api.Errno]int{}
	overTasks(8, func(x api.Task, d *dice) {
		a := d.tape(d.below(50))
		a.At = d.below(len(a.Words) + 1)
		c, e := makeHolds(t, x, a)
		if told[e]++; e != api.OK && x.Kind != api.Minimal {
			t.Fatalf("Make(%v): %d", x, e)
		}
		// Nothing but Minimal needs a tape.
		if x.Kind != api.Minimal {
			for _, a := range []api.Tape{{}, {Words: []uint64{}}, {Words: []uint64{wholeWord}, At: 1}} {
				if again, b, e := claim.Make(x, a); e != api.OK || !slices.Equal(c, again) || !sameTape(a, b) {
					t.Fatalf("Make(%v, %v): %v, %v, %d", x, a, again, b, e)
				}
			}
		}
	})
	if told[api.OK] < 100 || told[api.ErrTape] < 20 {
		t.Error(told)
	}
}

// Minimal draws U and V again and again, but 64 times at most.
func TestP17_2Again(t *testing.T) {
	for _, n := range []int{1, 2, 3, 5} {
		x := plain(api.Minimal, 263, unit(n))
		good := make([]uint64, 2*n) // U and V, of which U V is 1
		good[0], good[n] = 1, 1
		for _, tries := range []int{0, 1, 2, 17, 62, 63, 64, 65, 100} {
			a := api.Tape{Words: slices.Concat([]uint64{8}, make([]uint64, tries*2*n), good, []uint64{3}), At: 1}
			c, e := makeHolds(t, x, a)
			_, b, _ := claim.Make(x, a)
			if tries < 64 && (e != api.OK || b.At != 1+(tries+1)*2*n || !slices.Equal(c, slices.Concat([]uint64{2, 1, 0, 1, 262, 1, 1, 1}, good))) {
				t.Errorf("of %d, at the try %d: %v, at %d, %d", n, tries, c, b.At, e)
			}
			if tries >= 64 && (e != api.ErrNone || len(c) != 0 || len(b.Words) != 0 || b.At != 0) {
				t.Errorf("of %d, at the try %d: %v, %v, %d", n, tries, c, b, e)
			}
			// The tape ends ahead of what would do.
			for _, less := range []int{2, 1 + n, 2 * n} {
				short := api.Tape{Words: a.Words[:len(a.Words)-less], At: 1}
				c, e := makeHolds(t, x, short)
				_, b, _ := claim.Make(x, short)
				if tries < 64 && (e != api.ErrTape || len(c) != 0 || b.At != len(short.Words)) {
					t.Errorf("of %d, at the try %d, %d less: %v, at %d, %d", n, tries, less, c, b.At, e)
				}
			}
		}
	}
	// Just 64 times: words that are all 0.
	for _, k := range []struct {
		words int
		want  api.Errno
	}{{127, api.ErrTape}, {128, api.ErrNone}, {129, api.ErrNone}, {0, api.ErrTape}, {2, api.ErrTape}} {
		if c, e := makeHolds(t, plain(api.Minimal, 7, mat([]uint64{3})), api.Tape{Words: make([]uint64, k.words)}); e != k.want || len(c) != 0 {
			t.Errorf("of %d words: %v, %d", k.words, c, e)
		}
	}
}

func TestP17_2ReplyKnown(t *testing.T) {
	m, full, turns := known()
	ownOf := []uint64{3, 1, 0, 1, 1, 0, 1, 1, 1, 1, 0, 0, 1}
	steps := mat([]uint64{3, 0}, []uint64{0, 4})
	stepsOwn := []uint64{3, 1, 0, 1, 12, 6, 1, 1, 1, 1, 1, 1, 1} // U and V 1, 1
	kept := []uint64{3, 1, 0, 1, 12, 6, 1, 1, 1, 1, 1, 0, 1}     // V 0, 1
	for i, k := range []struct {
		t            api.Task
		c, ask, want []uint64
		e            api.Errno
	}{
		{plain(api.Singular, 7, full), []uint64{0}, []uint64{3, 4}, []uint64{1, 1}, api.OK},
		{plain(api.Singular, 7, full), []uint64{0}, []uint64{0, 0}, []uint64{0, 0}, api.OK},
		{plain(api.Singular, 7, m), []uint64{0}, []uint64{2, 4, 6}, []uint64{2, 1, 0}, api.OK},
		{plain(api.Singular, 7, m), []uint64{0}, []uint64{2, 5, 6}, nil, api.ErrNone},
		{plain(api.Singular, 7, m), []uint64{1, 2, 5, 1}, nil, nil, api.OK},
		{plain(api.Singular, 7, m), []uint64{1, 2, 5, 1}, []uint64{2, 4, 6}, nil, api.ErrArg},
		{plain(api.Minimal, 11, turns), ownOf, []uint64{2, 5, 6}, []uint64{9, 7}, api.OK}, // twice that, less what turns makes of it, is 0, 1
		{plain(api.Minimal, 11, turns), ownOf, []uint64{0, 0, 0}, []uint64{1, 0}, api.OK},
		{plain(api.Minimal, 13, steps), stepsOwn, []uint64{3, 0, 0}, nil, api.ErrNone},    // 3 keeps a direction
		{plain(api.Minimal, 13, steps), kept, []uint64{3, 0, 0}, []uint64{0, 12}, api.OK}, // but V, 0 in that, is met
		{plain(api.Minimal, 13, steps), kept, []uint64{3, 0}, nil, api.ErrArg},
		{plain(api.Minimal, 13, steps), kept, []uint64{3, 0, 13}, nil, api.ErrArg},
		{plain(api.Minimal, 13, steps), kept, []uint64{13, 0, 0}, nil, api.ErrArg},
		{product(7, full, full), []uint64{1, 3, 0, 2}, []uint64{3, 4}, nil, api.OK},
		{product(7, full, full), []uint64{0, 0, 0, 0}, []uint64{3, 4}, nil, api.OK}, // wrong, but formed
		{product(7, full, full), []uint64{1, 3, 0, 2}, []uint64{3}, nil, api.ErrArg},
		{product(7, full, full), []uint64{1, 3, 0, 2}, []uint64{3, 7}, nil, api.ErrArg},
		{product(7, full, full), []uint64{1, 3, 0, 2}, nil, nil, api.ErrArg},
		{plain(api.Rank, 7, mat([]uint64{0, 2})), []uint64{1, 0, 1, 1, 0, 2}, []uint64{6, 6}, nil, api.OK},
		{plain(api.Rank, 7, mat([]uint64{0, 2})), []uint64{1, 0, 1, 1, 0, 2}, []uint64{6, 6, 0}, nil, api.ErrArg},
		{solving(7, m, []uint64{2, 4, 6}), []uint64{1, 2, 1, 0}, nil, nil, api.OK},
		{solving(7, m, []uint64{2, 4, 6}), []uint64{1, 2, 1, 0}, []uint64{1}, nil, api.ErrArg},
		{solving(7, m, []uint64{2, 5, 6}), []uint64{0, 5, 1, 0}, nil, nil, api.OK},
		{solving(7, m, []uint64{2, 5, 6}), []uint64{0, 5, 1, 0}, []uint64{2, 5, 6}, nil, api.ErrArg},
	} {
		if w, e := claim.Reply(k.t, k.c, k.ask); e != k.e || !slices.Equal(w, k.want) {
			t.Errorf("%d: Reply(%v, %v, %v): %v, %d, not %v, %d", i, k.t, k.c, k.ask, w, e, k.want, k.e)
		}
	}
}

// replies what the words say, to a claim of which r is the reading.
func replies(x api.Task, c []uint64, r reading, ask []uint64) ([]uint64, api.Errno) {
	if !r.formed || !numbers(x.P, ask, r.asked) {
		return nil, api.ErrArg
	}
	switch {
	case x.Kind == api.Singular && r.says[0] == 0:
		return solve.Solve(x.P, x.M, ask)
	case x.Kind == api.Minimal:
		o, _ := readOwn(x.P, x.M.Rows, c)
		return own.Answer(x.P, x.M, o.V, ask[0])
	}
	return nil, api.OK
}

func TestP17_2Reply(t *testing.T) {
	told := map[api.Errno]int{}
	try := func(x api.Task, c []uint64, r reading, ask []uint64) {
		t.Helper()
		want, wanted := replies(x, c, r, ask)
		w, e := claim.Reply(x, c, ask)
		if e != wanted || !slices.Equal(w, want) {
			t.Fatalf("Reply(%v, %v, %v): %v, %d, not %v, %d", x, c, ask, w, e, want, wanted)
		}
		told[e]++
	}
	overTasks(9, func(x api.Task, d *dice) {
		c := made(t, x, d)
		for _, c := range [][]uint64{c, lying(d, x, c), append(slices.Clone(c), 0)} {
			r := read(x, c)
			ask := d.list(x.P, r.asked)
			try(x, c, r, ask)
			if x.M.Rows < 9 && x.M.Cols < 9 {
				for _, s := range spoilt(x.P, ask) {
					try(x, c, r, s)
				}
			}
		}
	})
	// All challenges of little matrices.
	d := dice(10)
	for _, s := range [][2]int{{2, 1}, {2, 2}, {3, 1}, {3, 2}, {7, 1}} {
		p := uint64(s[0])
		for _, m := range allMats(p, s[1], s[1]) {
			for _, x := range of(&d, p, m, 1) {
				c := made(t, x, &d)
				for _, c := range [][]uint64{c, lying(&d, x, c)} {
					r := read(x, c)
					for _, ask := range all(p, 3) {
						try(x, c, r, ask)
					}
				}
			}
		}
	}
	if len(told) != 3 || told[api.OK] < 1000 || told[api.ErrArg] < 1000 || told[api.ErrNone] < 100 {
		t.Error(told)
	}
}

func TestP17_3(t *testing.T) {
	square, wide, high := unit(5), noughts(2, 5), noughts(5, 2)
	ones := mat([]uint64{1, 1, 1, 1, 1}, []uint64{1, 1, 1, 1, 1})
	for i, k := range []struct {
		t    api.Task
		want int
	}{
		{product(101, wide, high), 10 + 10 + 4},
		{product(101, high, wide), 10 + 10 + 25},
		{product(101, high, noughts(2, 1)), 10 + 2 + 5},
		{product(101, unit(64), unit(64)), 3 * 4096},
		{plain(api.Singular, 101, square), 25},
		{plain(api.Singular, 101, noughts(5, 5)), 25},
		{plain(api.Singular, 101, unit(64)), 4096},
		{plain(api.Rank, 101, wide), 10},
		{plain(api.Rank, 101, ones), 10 + 2 + 5},
		{plain(api.Profile, 101, square), 25 + 25 + 25},
		{plain(api.Det, 101, square), 25 + 25 + 25},
		{plain(api.Det, 101, unit(64)), 3 * 4096},
		{plain(api.Minimal, 101, square), 3*25 + 5 + 5 + 2 + 2}, // x - 1
		{plain(api.Minimal, 101, unit(1)), 3 + 1 + 1 + 2 + 2},
		{plain(api.Minimal, 101, mat([]uint64{0, 1}, []uint64{0, 0})), 4*4 + 2 + 2 + 3 + 3},
		{solving(101, wide, []uint64{0, 0}), 10},
		{solving(101, wide, []uint64{0, 1}), 10 + 2},
		{solving(101, high, make([]uint64, 5)), 10},
		{solving(101, high, []uint64{0, 0, 3, 0, 0}), 10 + 5},
	} {
		d := dice(11)
		c := made(t, k.t, &d)
		if cost := claim.Cost(k.t, c); cost != k.want {
			t.Errorf("%d: of %v: %d, not %d", i, k.t, cost, k.want)
		}
		if cost := claim.Cost(k.t, append(c, 0)); cost != 0 {
			t.Errorf("%d: of what isn't formed: %d", i, cost)
		}
	}
}

// honest: what Make tells says the answer, and passes challenges with its replies.
func honest(t *testing.T, x api.Task, c []uint64, asks [][]uint64) {
	t.Helper()
	says, ok := claim.Says(x, c)
	if want := answer(t, x); !ok || !slices.Equal(says, want) {
		t.Fatalf("Says(%v, %v): %v, %v, not %v", x, c, says, ok, want)
	}
	if draws := task.Draws(x); claim.Asked(x, c) > draws {
		t.Fatalf("of %v: %d are asked, not %d at most", x, claim.Asked(x, c), draws)
	}
	for _, ask := range asks {
		if x.Kind == api.Minimal && at(x.P, says, ask[0]) == 0 {
			continue
		}
		if w := replied(t, x, c, ask); !claim.Pass(x, c, ask, w) {
			t.Fatalf("Pass(%v, %v, %v, %v): false", x, c, ask, w)
		}
	}
}

func TestP17_4Honest(t *testing.T) {
	d := dice(12)
	for _, s := range [][3]int{{2, 1, 1}, {2, 1, 3}, {2, 3, 1}, {2, 2, 2}, {2, 2, 3}, {2, 3, 2}, {3, 1, 2}, {3, 2, 1}, {3, 2, 2}, {5, 1, 2}, {7, 1, 1}, {11, 1, 1}} {
		for _, m := range allMats(uint64(s[0]), s[1], s[2]) {
			for _, x := range of(&d, uint64(s[0]), m, 1) {
				c := made(t, x, &d)
				honest(t, x, c, allLists(x.P, claim.Asked(x, c)))
			}
		}
	}
	overTasks(13, func(x api.Task, d *dice) {
		c := made(t, x, d)
		asked := claim.Asked(x, c)
		honest(t, x, c, [][]uint64{d.list(x.P, asked), d.list(x.P, asked), make([]uint64, asked), slices.Repeat([]uint64{x.P - 1}, asked)})
	})
}

// passing: how many of all challenges pass, by whatever reply.
func passing(x api.Task, c []uint64, mostReply int) int {
	many := 0
	for _, ask := range allLists(x.P, claim.Asked(x, c)) {
		some := false
		for k := range mostReply + 1 {
			for _, reply := range allLists(x.P, k) {
				some = some || claim.Pass(x, c, ask, reply)
			}
		}
		many += int(oneIf(some))
	}
	return many
}

// few tells whether a claim that says what isn't so passes at most one part in P of all challenges, or that many.
func few(t *testing.T, x api.Task, c []uint64, many int) bool {
	t.Helper()
	says, ok := claim.Says(x, c)
	if !ok {
		t.Fatalf("%v of %v isn't formed", c, x)
	}
	if slices.Equal(says, answer(t, x)) {
		return false
	}
	whole := 1
	for range claim.Asked(x, c) {
		whole *= int(x.P)
	}
	if whole == 1 || many*int(x.P) > whole {
		t.Fatalf("%v, that says %v of %v, passes %d of %d challenges", c, says, x, many, whole)
	}
	return true
}

// All formed claims of little tasks that say what isn't so.
func TestP17_4Lies(t *testing.T) {
	d := dice(14)
	lies := map[int]int{}
	for _, s := range [][3]int{{2, 1, 1}, {3, 1, 1}, {5, 1, 1}, {2, 1, 2}, {2, 2, 1}, {2, 2, 2}, {3, 1, 2}, {3, 2, 1}} {
		p, rows, cols := uint64(s[0]), s[1], s[2]
		shapes := allMats(p, rows, cols)
		for _, m := range shapes {
			for _, x := range of(&d, p, m, 2) {
				var l [][]uint64
				switch x.Kind {
				case api.Product:
					l = allLists(p, rows*2)
				case api.Singular:
					l = [][]uint64{{0}}
				case api.Rank, api.Profile, api.Det:
					for _, n := range shapes {
						c, _ := cup.Take(p, n)
						l = append(l, shape.Numbers(c))
					}
				}
				for _, c := range l {
					if few(t, x, c, passing(x, c, 2)) {
						lies[x.Kind]++
					}
				}
			}
		}
	}
	for _, kind := range []int{api.Product, api.Singular, api.Rank, api.Profile, api.Det} {
		if lies[kind] < 5 {
			t.Error(lies)
		}
	}
}

// No claim of Solving, and none of Singular that says 1, is formed and says what isn't so.
func TestP17_4None(t *testing.T) {
	for _, s := range [][3]int{{2, 1, 1}, {2, 1, 2}, {2, 2, 1}, {2, 2, 2}, {3, 1, 1}, {3, 1, 2}, {3, 2, 1}, {5, 1, 1}} {
		p := uint64(s[0])
		for _, m := range allMats(p, s[1], s[2]) {
			var l []api.Task
			for _, b := range allLists(p, s[1]) {
				l = append(l, solving(p, m, b))
			}
			if s[1] == s[2] {
				l = append(l, plain(api.Singular, p, m))
			}
			for _, x := range l {
				want := answer(t, x)
				for many := range 4 {
					for _, c := range allLists(p, many) {
						says, ok := claim.Says(x, c)
						if ok && (x.Kind == api.Solving || says[0] == 1) && !slices.Equal(says, want) {
							t.Fatalf("%v says %v of %v", c, says, x)
						}
					}
				}
			}
		}
	}
}

// passingOwn: how many places pass by some reply, times how many vectors do, where a place is passed.
func passingOwn(x api.Task, c []uint64) int {
	n := x.M.Rows
	places, vectors := 0, 0
	for z := range x.P {
		for _, w := range allLists(x.P, n) {
			if !claim.Pass(x, c, append([]uint64{z}, make([]uint64, n)...), w) {
				continue
			}
			if places++; vectors == 0 {
				for _, v := range allLists(x.P, n) {
					vectors += int(oneIf(claim.Pass(x, c, append([]uint64{z}, v...), w)))
				}
			}
			break
		}
	}
	return places * vectors
}

// Claims of another polynomial than a matrix's own: any, a multiple, a divisor. They pass at most 4 n and 1 parts in P.
func TestP17_4Minimal(t *testing.T) {
	d := dice(15)
	lies := 0
	for _, k := range []struct {
		p uint64
		l []api.Mat
	}{
		{7, allMats(7, 1, 1)},
		{11, []api.Mat{mat([]uint64{3, 0}, []uint64{0, 3}), mat([]uint64{3, 1}, []uint64{0, 3}), mat([]uint64{3, 0}, []uint64{0, 4}), mat([]uint64{0, 1}, []uint64{10, 0}), noughts(2, 2)}},
	} {
		for _, m := range k.l {
			x := plain(api.Minimal, k.p, m)
			n := m.Rows
			for range 40 {
				c := ownClaim(&d, k.p, n)
				if d.below(2) == 0 { // (x - 3)(x - some): of some of these matrices a multiple, of others a divisor
					c = ownOver(&d, k.p, n, append([]uint64{k.p - 3}, d.list(k.p, n-1)...))
				}
				says, ok := claim.Says(x, c)
				if !ok {
					t.Fatalf("%v of %v isn't formed", c, x)
				}
				if slices.Equal(says, answer(t, x)) {
					continue
				}
				whole := int(k.p)
				for range n {
					whole *= int(k.p)
				}
				lies++
				if many := passingOwn(x, c); many*int(k.p) > (4*n+1)*whole {
					t.Fatalf("%v, that says %v of %v, passes %d of %d challenges", c, says, x, many, whole)
				}
			}
		}
	}
	if lies < 200 {
		t.Error(lies)
	}
}

// ownOver a product of x and each of these numbers: a claim of the shape.
func ownOver(d *dice, p uint64, n int, roots []uint64) []uint64 {
	f := []uint64{1}
	for _, root := range roots {
		f = mulPoly(p, f, []uint64{root, 1})
	}
	return numbersOfOwn(api.Own{F: f, H: []uint64{2}, T: []uint64{(p + 1) / 2}, U: d.list(p, n), V: d.list(p, n)})
}

// Singular, determinant, rank, profile and own polynomial of one matrix agree, as claims say them.
func TestP5Kinds(t *testing.T) {
	overMats(16, func(p uint64, m api.Mat, d *dice) {
		if m.Rows != m.Cols {
			return
		}
		says := map[int][]uint64{}
		for _, x := range of(d, p, m, 1) {
			says[x.Kind], _ = claim.Says(x, made(t, x, d))
		}
		full := says[api.Rank][0] == uint64(m.Rows)
		if uint64(len(says[api.Profile])) != says[api.Rank][0] || (says[api.Det][0] != 0) != full || (says[api.Singular][0] == 0) != full {
			t.Fatalf("modulo %d, of %v: %v", p, m, says)
		}
		if f := says[api.Minimal]; f != nil && (f[0] != 0) != full {
			t.Fatalf("modulo %d, of %v: %v", p, m, says)
		}
	})
}

// A Solving task's claim shows by itself what it says: nothing is asked.
func TestP15Solved(t *testing.T) {
	overTasks(17, func(x api.Task, d *dice) {
		if x.Kind != api.Solving {
			return
		}
		c := made(t, x, d)
		if says, ok := claim.Says(x, c); !ok || claim.Asked(x, c) != 0 || !claim.Pass(x, c, nil, nil) || !slices.Equal(says, answer(t, x)) {
			t.Fatalf("of %v: %v", x, c)
		}
	})
}

// roomy is a copy with spare room behind it, filled with a mark.
func roomy[T any](l []T, mark T) []T {
	return append(slices.Clone(l), slices.Repeat([]T{mark}, 80)...)[:len(l)]
}

func untouched(room, l []uint64) bool {
	all := room[:len(l)+80]
	return slices.Equal(all[:len(l)], l) && !slices.ContainsFunc(all[len(l):], func(x uint64) bool { return x != wholeWord })
}

// spoil an answer with its spare room.
func spoil(l []uint64) {
	l = l[:cap(l)]
	for i := range l {
		l[i] = wholeWord
	}
}

func roomyTask(x api.Task) api.Task {
	room := x
	room.M.Cells, room.N.Cells, room.B = roomy(x.M.Cells, wholeWord), roomy(x.N.Cells, wholeWord), roomy(x.B, wholeWord)
	room.Proofs = roomy(x.Proofs, api.Proof{})
	return room
}

func taskUntouched(room, x api.Task) bool {
	return untouched(room.M.Cells, x.M.Cells) && untouched(room.N.Cells, x.N.Cells) && untouched(room.B, x.B) && room.Kind == x.Kind && room.P == x.P && task.Right(room)
}

// What is handed in isn't changed, nor its spare room, nor is it told; and what was told is told again.
func TestMemory(t *testing.T) {
	overTasks(18, func(x api.Task, d *dice) {
		a := d.tape(400 + 20*x.M.Rows)
		c, behind, _ := claim.Make(x, a)
		ask, drawn, _ := claim.Ask(x, c, a)
		w, e := claim.Reply(x, c, ask)
		if e != api.OK {
			return
		}
		says, _ := claim.Says(x, c)
		room, roomC, roomAsk, roomW := roomyTask(x), roomy(c, wholeWord), roomy(ask, wholeWord), roomy(w, wholeWord)
		roomA := api.Tape{Words: roomy(a.Words, wholeWord)}
		want := claim.Pass(x, c, ask, w)
		for range 2 {
			l, b, _ := claim.Make(room, roomA)
			asked, after, _ := claim.Ask(room, roomC, roomA)
			reply, _ := claim.Reply(room, roomC, roomAsk)
			told, _ := claim.Says(room, roomC)
			if !slices.Equal(l, c) || !sameTape(b, behind) || !slices.Equal(asked, ask) || !sameTape(after, drawn) || !slices.Equal(reply, w) || !slices.Equal(told, says) || claim.Pass(room, roomC, roomAsk, roomW) != want {
				t.Fatalf("of %v another answer: %v, %v, %v, %v", x, l, asked, reply, told)
			}
			for _, l := range [][]uint64{l, b.Words, asked, after.Words, reply, told} {
				spoil(l)
			}
			if claim.Cost(room, roomC) != read(x, c).cost || claim.Asked(room, roomC) != len(ask) || !taskUntouched(room, x) || !untouched(roomC, c) || !untouched(roomAsk, ask) || !untouched(roomW, w) || !untouched(roomA.Words, a.Words) {
				t.Fatalf("what is handed in is changed, or told: %v", x)
			}
		}
	})
}

// So is the tape beside an error.
func TestTapeMemory(t *testing.T) {
	x := plain(api.Minimal, 7, mat([]uint64{3}))
	for _, a := range append(wrongTapes(), api.Tape{Words: []uint64{1, 2}}, api.Tape{Words: []uint64{1}}) {
		for _, x := range []api.Task{x, {}, plain(api.Rank, 7, mat([]uint64{3}))} {
			was := slices.Clone(a.Words)
			_, b, _ := claim.Make(x, a)
			spoil(b.Words)
			_, b, _ = claim.Ask(x, []uint64{0}, a)
			spoil(b.Words)
			if !slices.Equal(was, a.Words) {
				t.Errorf("of %v the tape is told", x)
			}
		}
	}
}

// One list may stand in more than one place.
func TestOneForAll(t *testing.T) {
	l := []uint64{1, 0, 0, 1}
	m := api.Mat{Rows: 2, Cols: 2, Cells: l}
	x := product(2, m, m)
	if says, ok := claim.Says(x, l); !ok || !slices.Equal(says, l) || !claim.Pass(x, l, l[:2], l[:0]) || !slices.Equal(l, []uint64{1, 0, 0, 1}) {
		t.Error(says, ok, l)
	}
	y := plain(api.Singular, 2, m)
	if w, e := claim.Reply(y, l[1:2], l[:2]); e != api.OK || !slices.Equal(w, l[:2]) || !claim.Pass(y, l[1:2], l[:2], l[:2]) {
		t.Error(w, e)
	}
}
