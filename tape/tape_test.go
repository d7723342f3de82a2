package tape_test

import (
	"math"
	"math/big"
	"slices"
	"testing"

	"affidavit/api"
	"affidavit/tape"
)

const (
	greatest  = math.MaxInt64 // the greatest modulus: 7 * 7 * 73 * 127 * 337 * 92737 * 649657
	bigPrime  = greatest - 24 // the greatest prime below it
	beyond    = api.MostPrime // the least that is too great
	mersenne  = 1<<61 - 1     // a prime
	halfWord  = 1<<32 - 5     // the greatest prime of 32 bits
	wholeWord = math.MaxUint64
	most      = 8192 // numbers that one call draws
)

func wrongModuli() []uint64 {
	return []uint64{0, 1, beyond, beyond + 1, beyond + 25, wholeWord - 1, wholeWord}
}

// moduli that may be, prime or not.
func moduli() []uint64 {
	return []uint64{
		2, 3, 5, 7, 101, 641, 65537, halfWord, 1<<33 + 17, mersenne, bigPrime,
		4, 6, 9, 12, 255, 1 << 32, 1<<32 + 1, 1 << 61, 1<<61 + 1, 1 << 62, 1<<62 + 1, 6148914691236517205, 6148914691236517206, greatest - 1, greatest,
	}
}

// dice makes numbers that look like chance and are the same each time.
type dice uint64

func (d *dice) word() uint64 {
	*d ^= *d << 13
	*d ^= *d >> 7
	*d ^= *d << 17
	return uint64(*d)
}

func (d *dice) below(n int) int { return int(d.word() % uint64(n)) }

// words of just so many: such that don't count, noughts of the modulus, and any.
func (d *dice) words(p uint64, many int) []uint64 {
	l := make([]uint64, many)
	for i := range l {
		switch d.word() % 4 {
		case 0:
			l[i] = wholeWord - d.word()%3
		case 1:
			l[i] = d.word() % (wholeWord / p) * p
		default:
			l[i] = d.word()
		}
	}
	return l
}

// The slow ways, by math/big and from the words of the chapter alone.

func word(x uint64) *big.Int { return new(big.Int).SetUint64(x) }

// bound is the greatest multiple of a modulus that isn't above 2^64.
func bound(p uint64) *big.Int {
	all := new(big.Int).Lsh(big.NewInt(1), 64)
	return all.Sub(all, new(big.Int).Mod(all, word(p)))
}

func slowCounts(p, w uint64) bool { return word(w).Cmp(bound(p)) < 0 }

func slowLeft(p uint64, t api.Tape) int {
	many := 0
	for i := t.At; i < len(t.Words); i++ {
		if slowCounts(p, t.Words[i]) {
			many++
		}
	}
	return many
}

// drawing is what should be told of numbers that are drawn.
type drawing struct {
	l  []uint64
	at int
	e  api.Errno
}

// slowDrawn goes word by word; where noughts is false, they are passed over.
func slowDrawn(p uint64, t api.Tape, n int, noughts bool) drawing {
	var l []uint64
	limit := bound(p)
	at := t.At
	for ; len(l) < n && at < len(t.Words); at++ {
		w := word(t.Words[at])
		if w.Cmp(limit) >= 0 {
			continue
		}
		number := w.Mod(w, word(p)).Uint64()
		if number != 0 || noughts {
			l = append(l, number)
		}
	}
	if len(l) < n {
		return drawing{nil, len(t.Words), api.ErrTape}
	}
	return drawing{l, at, api.OK}
}

// same: what was told is what should be, and the tape's words are what they were.
func (want drawing) same(t api.Tape, l []uint64, behind api.Tape, e api.Errno) bool {
	return e == want.e && slices.Equal(l, want.l) && behind.At == want.at && slices.Equal(behind.Words, t.Words)
}

// The calls, each held against the slow way.

func draw(t *testing.T, p uint64, a api.Tape) (api.Tape, api.Errno) {
	t.Helper()
	want := slowDrawn(p, a, 1, true)
	x, behind, e := tape.Draw(p, a)
	l := []uint64{x}
	if e != api.OK && x == 0 {
		l = nil
	}
	if !want.same(a, l, behind, e) {
		t.Fatalf("Draw(%d, %v): %d, at %d, %d, not %v", p, a, x, behind.At, e, want)
	}
	return behind, e
}

func many(t *testing.T, p uint64, a api.Tape, n int) api.Errno {
	t.Helper()
	want := slowDrawn(p, a, n, true)
	l, behind, e := tape.Many(p, a, n)
	if !want.same(a, l, behind, e) {
		t.Fatalf("Many(%d, %v, %d): %v, at %d, %d, not %v", p, a, n, l, behind.At, e, want)
	}
	return e
}

func other(t *testing.T, p uint64, a api.Tape, n int) api.Errno {
	t.Helper()
	want := slowDrawn(p, a, n, false)
	l, behind, e := tape.Other(p, a, n)
	if !want.same(a, l, behind, e) || slices.Contains(l, 0) {
		t.Fatalf("Other(%d, %v, %d): %v, at %d, %d, not %v", p, a, n, l, behind.At, e, want)
	}
	return e
}

func left(t *testing.T, p uint64, a api.Tape) int {
	t.Helper()
	want := slowLeft(p, a)
	if n := tape.Left(p, a); n != want {
		t.Fatalf("Left(%d, %v): %d, not %d", p, a, n, want)
	}
	return want
}

// tapes that are right, of few words each.
func tapes(p uint64) []api.Tape {
	d := dice(p)
	l := []api.Tape{{}, {Words: []uint64{}}}
	for _, n := range []int{1, 2, 3, 5, 17, 100} {
		words := d.words(p, n)
		for _, at := range []int{0, 1, n / 2, n - 1, n} {
			l = append(l, api.Tape{Words: words, At: at})
		}
	}
	return append(l,
		api.Tape{Words: slices.Repeat([]uint64{wholeWord}, 20), At: 3},
		api.Tape{Words: slices.Repeat([]uint64{0}, 20), At: 3},
		api.Tape{Words: slices.Repeat([]uint64{wholeWord, 0, p, p - 1, 1}, 4), At: 2})
}

func wrongTapes() []api.Tape {
	few := []uint64{1, 2, 3}
	return []api.Tape{
		{At: -1}, {At: 1}, {At: math.MaxInt}, {At: math.MinInt}, {Words: []uint64{}, At: 1},
		{Words: few, At: -1}, {Words: few, At: 4}, {Words: few, At: 5}, {Words: few, At: math.MinInt}, {Words: few, At: math.MaxInt},
		{Words: few[:2:3], At: 3}, // its spare room is no part of it
		{Words: make([]uint64, 65536), At: 65537}, {Words: make([]uint64, 65536), At: -1},
		{Words: make([]uint64, 65537)}, {Words: make([]uint64, 65537), At: 1}, {Words: make([]uint64, 65537), At: 65536}, {Words: make([]uint64, 65537), At: 65537},
		{Words: make([]uint64, 100000), At: 70000},
	}
}

func TestP10_1Right(t *testing.T) {
	for _, n := range []int{0, 1, 2, 3, 100, 8193, 65535, 65536} {
		for _, at := range []int{0, 1, n / 2, n - 1, n} {
			if a := (api.Tape{Words: make([]uint64, n), At: at}); tape.Right(a) != (at >= 0 && at <= n) {
				t.Errorf("%d words, at %d", n, at)
			}
		}
	}
	if !tape.Right(api.Tape{}) || !tape.Right(api.Tape{Words: []uint64{wholeWord, 0}, At: 2}) {
		t.Error("any words may be")
	}
	for _, a := range wrongTapes() {
		if tape.Right(a) {
			t.Errorf("%d words, at %d", len(a.Words), a.At)
		}
	}
}

func TestP10_1Counts(t *testing.T) {
	d := dice(1)
	for _, p := range moduli() {
		last := new(big.Int).Sub(bound(p), big.NewInt(1)).Uint64() // the last one that counts
		words := []uint64{0, 1, p - 1, p, p + 1, last - 1, last, last + 1, last + 2, beyond - 1, beyond, wholeWord - 2, wholeWord - 1, wholeWord}
		for range 200 {
			words = append(words, d.word(), wholeWord-d.word()%p)
		}
		for _, w := range words {
			if tape.Counts(p, w) != slowCounts(p, w) {
				t.Errorf("Counts(%d, %d)", p, w)
			}
		}
	}
}

func TestP10_1CountsKnown(t *testing.T) {
	for _, c := range []struct {
		p, last uint64
	}{
		{2, wholeWord}, {3, wholeWord - 1}, {4, wholeWord}, {5, wholeWord - 1}, {6, wholeWord - 4}, {7, wholeWord - 2}, {1 << 62, wholeWord},
		{1<<62 + 1, wholeWord - 1<<62 + 3}, {greatest, wholeWord - 2}, {bigPrime, wholeWord - 50},
	} {
		if !tape.Counts(c.p, c.last) || !tape.Counts(c.p, 0) {
			t.Errorf("modulo %d, %d counts", c.p, c.last)
		}
		if c.last < wholeWord && tape.Counts(c.p, c.last+1) {
			t.Errorf("modulo %d, %d doesn't count", c.p, c.last+1)
		}
	}
	if x, _, e := tape.Draw(3, api.Tape{Words: []uint64{wholeWord, 7}}); x != 1 || e != api.OK {
		t.Error(x, e)
	}
}

func TestP10_1CountsRefuses(t *testing.T) {
	for _, p := range wrongModuli() {
		for _, w := range []uint64{0, 1, 2, beyond, wholeWord} {
			if tape.Counts(p, w) {
				t.Errorf("Counts(%d, %d)", p, w)
			}
		}
	}
}

// A number behind the other, to the tape's end, from each place.
func TestP10_1Draw(t *testing.T) {
	for _, p := range moduli() {
		for _, a := range tapes(p) {
			for a.At <= len(a.Words) {
				drawn := 0
				behind, e := draw(t, p, a)
				for ; e == api.OK; behind, e = draw(t, p, behind) {
					drawn++
				}
				if e != api.ErrTape || behind.At != len(a.Words) || drawn != left(t, p, a) {
					t.Fatalf("Draw(%d, %v): %d times, to %d, %d", p, a, drawn, behind.At, e)
				}
				a.At++
			}
		}
	}
}

func TestP10_1DrawKnown(t *testing.T) {
	a := api.Tape{Words: []uint64{9, wholeWord, wholeWord - 1, wholeWord - 2, wholeWord}}
	for _, c := range []struct {
		at, behind int
		x          uint64
		e          api.Errno
	}{{0, 1, 2, api.OK}, {1, 4, 6, api.OK}, {2, 4, 6, api.OK}, {3, 4, 6, api.OK}, {4, 5, 0, api.ErrTape}, {5, 5, 0, api.ErrTape}} {
		a.At = c.at
		if x, behind, e := tape.Draw(7, a); x != c.x || behind.At != c.behind || e != c.e || !slices.Equal(behind.Words, a.Words) {
			t.Errorf("from %d: %d, %v, %d", c.at, x, behind, e)
		}
	}
}

func TestP10_1LeftKnown(t *testing.T) {
	words := []uint64{0, wholeWord, 1, wholeWord - 1, 2, wholeWord - 2, 3}
	for at, want := range []int{5, 4, 4, 3, 3, 2, 1, 0} {
		if n := tape.Left(7, api.Tape{Words: words, At: at}); n != want {
			t.Errorf("from %d on %d, not %d", at, n, want)
		}
		if n := tape.Left(2, api.Tape{Words: words, At: at}); n != 7-at {
			t.Errorf("modulo 2, from %d on %d", at, n)
		}
	}
	if n := tape.Left(2, api.Tape{Words: make([]uint64, 65536)}); n != 65536 {
		t.Error(n)
	}
}

func TestP10_1LeftRefuses(t *testing.T) {
	for _, p := range wrongModuli() {
		if n := tape.Left(p, api.Tape{Words: []uint64{1, 2, 3}}); n != 0 {
			t.Errorf("modulo %d: %d", p, n)
		}
	}
	for _, a := range wrongTapes() {
		if n := tape.Left(7, a); n != 0 {
			t.Errorf("%d words, at %d: %d", len(a.Words), a.At, n)
		}
	}
}

// refused asks all that draws: nothing, ErrArg, and the tape as it is.
func refused(t *testing.T, p uint64, a api.Tape, n int) {
	t.Helper()
	want := drawing{nil, a.At, api.ErrArg}
	if l, behind, e := tape.Many(p, a, n); !want.same(a, l, behind, e) {
		t.Errorf("Many(%d, %d words at %d, %d): %d numbers, at %d, %d", p, len(a.Words), a.At, n, len(l), behind.At, e)
	}
	if l, behind, e := tape.Other(p, a, n); !want.same(a, l, behind, e) {
		t.Errorf("Other(%d, %d words at %d, %d): %d numbers, at %d, %d", p, len(a.Words), a.At, n, len(l), behind.At, e)
	}
}

func drawRefused(t *testing.T, p uint64, a api.Tape) {
	t.Helper()
	if x, behind, e := tape.Draw(p, a); x != 0 || e != api.ErrArg || behind.At != a.At || !slices.Equal(behind.Words, a.Words) {
		t.Errorf("Draw(%d, %d words at %d): %d, at %d, %d", p, len(a.Words), a.At, x, behind.At, e)
	}
	// ErrArg goes ahead of ErrTape, and stands where no number is asked for too.
	for _, n := range []int{0, 1, 3, most} {
		refused(t, p, a, n)
	}
}

func TestP10_1Refuses(t *testing.T) {
	for _, p := range wrongModuli() {
		for _, a := range []api.Tape{{}, {Words: []uint64{1, 2, 3}}, {Words: []uint64{1, 2, 3}, At: 2}, {Words: []uint64{1, 2, 3}, At: 3}, {Words: []uint64{1}, At: 2}} {
			drawRefused(t, p, a)
		}
	}
	for _, a := range wrongTapes() {
		drawRefused(t, 7, a)
		drawRefused(t, 2, a)
	}
}

func TestP10_2Many(t *testing.T) {
	for _, p := range moduli() {
		for _, a := range tapes(p) {
			can := left(t, p, a)
			for n := range len(a.Words) + 2 {
				if e := many(t, p, a, n); (e == api.OK) != (n <= can) {
					t.Fatalf("Many(%d, %v, %d): %d", p, a, n, e)
				}
			}
			if e := many(t, p, a, most); e != api.ErrTape {
				t.Fatalf("Many(%d, %v, %d): %d", p, a, most, e)
			}
		}
	}
}

func TestP10_2Other(t *testing.T) {
	for _, p := range moduli() {
		for _, a := range tapes(p) {
			for n := range len(a.Words) + 2 {
				other(t, p, a, n)
			}
			if e := other(t, p, a, most); e != api.ErrTape {
				t.Fatalf("Other(%d, %v, %d): %d", p, a, most, e)
			}
		}
	}
}

// Many numbers are those that are drawn one by one.
func TestP10_2OneByOne(t *testing.T) {
	d := dice(3)
	for _, p := range moduli() {
		behind := api.Tape{Words: d.words(p, 60), At: 4}
		l, end, e := tape.Many(p, behind, 20)
		if e != api.OK {
			t.Fatal(p, e)
		}
		for i, want := range l {
			x, next, e := tape.Draw(p, behind)
			if e != api.OK || x != want {
				t.Fatalf("modulo %d: the number %d is %d, %d, not %d", p, i, x, e, want)
			}
			behind = next
		}
		if behind.At != end.At {
			t.Errorf("modulo %d: %d, not %d", p, behind.At, end.At)
		}
	}
}

func TestP10_2Known(t *testing.T) {
	a := api.Tape{Words: []uint64{8, 0, wholeWord, 3, 14, 5, wholeWord}}
	for _, c := range []struct {
		n     int
		many  drawing
		other drawing
		p     uint64
		at    int
	}{
		{n: 0, many: drawing{nil, 0, api.OK}, other: drawing{nil, 0, api.OK}, p: 7},
		{n: 0, many: drawing{nil, 2, api.OK}, other: drawing{nil, 2, api.OK}, p: 7, at: 2}, // a word that doesn't count isn't taken ahead
		{n: 0, many: drawing{nil, 7, api.OK}, other: drawing{nil, 7, api.OK}, p: 7, at: 7},
		{n: 1, many: drawing{[]uint64{1}, 1, api.OK}, other: drawing{[]uint64{1}, 1, api.OK}, p: 7},
		{n: 2, many: drawing{[]uint64{1, 0}, 2, api.OK}, other: drawing{[]uint64{1, 3}, 4, api.OK}, p: 7},
		{n: 3, many: drawing{[]uint64{1, 0, 3}, 4, api.OK}, other: drawing{[]uint64{1, 3, 5}, 6, api.OK}, p: 7},
		{n: 4, many: drawing{[]uint64{1, 0, 3, 0}, 5, api.OK}, other: drawing{nil, 7, api.ErrTape}, p: 7},
		{n: 5, many: drawing{[]uint64{1, 0, 3, 0, 5}, 6, api.OK}, other: drawing{nil, 7, api.ErrTape}, p: 7},
		{n: 6, many: drawing{nil, 7, api.ErrTape}, other: drawing{nil, 7, api.ErrTape}, p: 7},
		{n: 1, many: drawing{[]uint64{0}, 5, api.OK}, other: drawing{[]uint64{5}, 6, api.OK}, p: 7, at: 4},
		{n: 1, many: drawing{nil, 7, api.ErrTape}, other: drawing{nil, 7, api.ErrTape}, p: 7, at: 6},
		{n: 1, many: drawing{nil, 7, api.ErrTape}, other: drawing{nil, 7, api.ErrTape}, p: 7, at: 7},
		{n: 3, many: drawing{[]uint64{0, 0, 1}, 3, api.OK}, other: drawing{[]uint64{1, 1, 1}, 6, api.OK}, p: 2},
		{n: 4, many: drawing{[]uint64{0, 0, 1, 1}, 4, api.OK}, other: drawing{[]uint64{1, 1, 1, 1}, 7, api.OK}, p: 2},
		{n: 5, many: drawing{[]uint64{0, 0, 1, 1, 0}, 5, api.OK}, other: drawing{nil, 7, api.ErrTape}, p: 2},
	} {
		a.At = c.at
		if l, behind, e := tape.Many(c.p, a, c.n); !c.many.same(a, l, behind, e) {
			t.Errorf("Many(%d, at %d, %d): %v, at %d, %d, not %v", c.p, c.at, c.n, l, behind.At, e, c.many)
		}
		if l, behind, e := tape.Other(c.p, a, c.n); !c.other.same(a, l, behind, e) {
			t.Errorf("Other(%d, at %d, %d): %v, at %d, %d, not %v", c.p, c.at, c.n, l, behind.At, e, c.other)
		}
	}
}

// Modulo 2, where none is 1 any more: all words count, and none will do.
func TestP10_2OtherOf2(t *testing.T) {
	a := api.Tape{Words: []uint64{1, 0, 2, 4, wholeWord - 1}, At: 1}
	if e := other(t, 2, a, 1); e != api.ErrTape || tape.Left(2, a) != 4 {
		t.Error(e)
	}
	if e := other(t, 2, a, 0); e != api.OK {
		t.Error(e)
	}
}

// The greatest tape, and as many numbers as one call draws.
func TestP10_2Greatest(t *testing.T) {
	d := dice(5)
	for _, p := range []uint64{2, 3, 7, halfWord, 1<<62 + 1, bigPrime, greatest} {
		a := api.Tape{Words: d.words(p, api.MaxWords)}
		for a.At = range 40 {
			if e := many(t, p, a, most); e != api.OK {
				t.Fatal(p, e)
			}
		}
		if e := other(t, p, a, most); e != api.OK {
			t.Fatal(p, e)
		}
		a.At = api.MaxWords - most
		many(t, p, a, most)
		other(t, p, a, most)
		a.At = api.MaxWords
		if e := many(t, p, a, 1); e != api.ErrTape || many(t, p, a, 0) != api.OK {
			t.Fatal(p, e)
		}
	}
	// Just as many words as there must be, and one too few.
	a := api.Tape{Words: slices.Repeat([]uint64{1}, most)}
	if many(t, 7, a, most) != api.OK || other(t, 7, a, most) != api.OK {
		t.Error("enough")
	}
	a.At = 1
	if many(t, 7, a, most) != api.ErrTape || other(t, 7, a, most) != api.ErrTape {
		t.Error("not enough")
	}
}

func TestP10_2Refuses(t *testing.T) {
	full := api.Tape{Words: slices.Repeat([]uint64{1}, 20000), At: 5}
	for _, n := range []int{-1, -2, most + 1, most + 2, 19995, 65536, 1 << 32, math.MinInt, math.MaxInt} {
		for _, a := range []api.Tape{{}, {Words: []uint64{1, 2, 3}}, {Words: []uint64{1, 2, 3}, At: 3}, {Words: []uint64{1, 2, 3}, At: 4}, full} {
			refused(t, 7, a, n)
			refused(t, 2, a, n)
			refused(t, 1, a, n)
		}
	}
}

// Each number of a great modulus: all words that it may stand for are tried.
func TestP10_3AsManyWords(t *testing.T) {
	d := dice(7)
	for _, p := range []uint64{1<<59 - 55, 1 << 60, 1<<60 + 1, mersenne, 1<<61 + 1, 1 << 62, 1<<62 + 1, 6148914691236517205, 6148914691236517206, bigPrime, greatest - 1, greatest} {
		numbers := []uint64{0, 1, 2, p / 2, p - 2, p - 1}
		for range 20 {
			numbers = append(numbers, d.word()%p)
		}
		want := new(big.Int).Div(new(big.Int).Lsh(big.NewInt(1), 64), word(p)).Uint64()
		for _, number := range numbers {
			counted := uint64(0)
			for w := number; ; w += p {
				if x, _, e := tape.Draw(p, api.Tape{Words: []uint64{w}}); e == api.OK {
					if x != number || !tape.Counts(p, w) {
						t.Fatalf("modulo %d: %d is %d, not %d", p, w, x, number)
					}
					counted++
				}
				if w > wholeWord-p {
					break
				}
			}
			if counted != want {
				t.Fatalf("modulo %d: %d has %d words, not %d", p, number, counted, want)
			}
		}
	}
}

// Of a small modulus: the last words that count are its numbers in order, and none behind them counts.
func TestP10_3LastWords(t *testing.T) {
	for p := uint64(2); p < 700; p++ {
		last := new(big.Int).Sub(bound(p), big.NewInt(1)).Uint64()
		a := api.Tape{}
		for w := last - p + 1; ; w++ {
			a.Words = append(a.Words, w)
			if w == wholeWord {
				break
			}
		}
		if n := tape.Left(p, a); n != int(p) {
			t.Fatalf("modulo %d: %d", p, n)
		}
		l, _, e := tape.Many(p, a, int(p))
		if e != api.OK {
			t.Fatal(p, e)
		}
		for i, x := range l {
			if x != uint64(i) {
				t.Fatalf("modulo %d: %v", p, l)
			}
		}
	}
}

// Left tells how many can be drawn: as many, and no more.
func TestP10_3Left(t *testing.T) {
	d := dice(9)
	for range 3000 {
		p := moduli()[d.below(len(moduli()))]
		a := api.Tape{Words: d.words(p, d.below(40))}
		a.At = d.below(len(a.Words) + 1)
		can := left(t, p, a)
		_, behind, e := tape.Many(p, a, can)
		if e != api.OK || tape.Left(p, behind) != 0 {
			t.Fatalf("Many(%d, %v, %d): at %d, %d", p, a, can, behind.At, e)
		}
		if _, behind, e = tape.Many(p, a, can+1); e != api.ErrTape || behind.At != len(a.Words) {
			t.Fatalf("Many(%d, %v, %d): at %d, %d", p, a, can+1, behind.At, e)
		}
	}
}

// roomy is a copy with spare room behind it, filled with a mark.
func roomy(l []uint64) []uint64 {
	return append(slices.Clone(l), slices.Repeat([]uint64{77}, 300)...)[:len(l)]
}

func untouched(room, l []uint64) bool {
	all := room[:len(l)+300]
	return slices.Equal(all[:len(l)], l) && !slices.ContainsFunc(all[len(l):], func(x uint64) bool { return x != 77 })
}

// scribbled is all of a list's room overwritten.
func scribbled(l []uint64) {
	l = l[:cap(l)]
	for i := range l {
		l[i] = 99
	}
}

// What is handed in isn't changed, nor its spare room; an answer shares nothing with it, and the numbers nothing with the tape.
func TestMemory(t *testing.T) {
	d := dice(11)
	for _, p := range []uint64{0, 2, 7, greatest} { // of 0, ErrArg
		for _, words := range [][]uint64{nil, {wholeWord}, {5}, d.words(7, 50)} { // of the first, ErrTape
			a := api.Tape{Words: roomy(words)}
			fine := func(call string, l []uint64, behind api.Tape) {
				t.Helper()
				numbers := slices.Clone(l)
				if !untouched(a.Words, words) || !slices.Equal(behind.Words, words) {
					t.Errorf("%s(%d, %v) changes what it is given", call, p, words)
				}
				scribbled(behind.Words)
				if !untouched(a.Words, words) || !slices.Equal(l, numbers) {
					t.Errorf("%s(%d, %v): the tape behind shares", call, p, words)
				}
				scribbled(l)
				if !untouched(a.Words, words) {
					t.Errorf("%s(%d, %v): the numbers share", call, p, words)
				}
			}
			_, behind, _ := tape.Draw(p, a)
			fine("Draw", nil, behind)
			for _, n := range []int{-1, 0, 1, 3, 10} {
				l, behind, _ := tape.Many(p, a, n)
				fine("Many", l, behind)
				l, behind, _ = tape.Other(p, a, n)
				fine("Other", l, behind)
			}
			tape.Right(a)
			tape.Left(p, a)
			if !untouched(a.Words, words) {
				t.Errorf("Left(%d, %v) changes what it is given", p, words)
			}
		}
	}
}

// The spare room behind a tape's words is no part of it.
func TestSpareRoom(t *testing.T) {
	a := api.Tape{Words: []uint64{1, 2, 3}[:1]}
	if n := tape.Left(7, a); n != 1 {
		t.Error(n)
	}
	if l, behind, e := tape.Many(7, a, 2); e != api.ErrTape || len(l) != 0 || behind.At != 1 || len(behind.Words) != 1 {
		t.Error(l, behind, e)
	}
}
