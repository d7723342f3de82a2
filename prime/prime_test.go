package prime_test

import (
	"math"
	"math/big"
	"slices"
	"testing"

	"affidavit/api"
	"affidavit/prime"
)

const (
	mersenne  = 1<<61 - 1               // a prime
	halfWord  = 1<<32 - 5               // the greatest prime of 32 bits
	overHalf  = 1<<32 + 15              // the least prime above them
	most      = api.MostPrime - 301     // the greatest prime below 2^63 that can be built
	unbuilt   = api.MostPrime - 25      // the greatest prime below 2^63: what is left of the number below it is too great
	tooGreat  = api.MostPrime + 29      // the least prime above 2^63
	wholeWord = math.MaxUint64          // the greatest word
	sly       = 3825123056546413051     // 149491 * 747451 * 34233211: looks prime to the powers of all bases up to 36
	twin      = 65537 * 65537           // the least that has no divisor up to 65536, and isn't prime
	below     = 4294967279 * 2147483629 // of two primes, each below 2^32, below 2^63
)

// copied is a list that shares nothing with another.
func copied(l []api.Proof) []api.Proof {
	l = slices.Clone(l)
	for i := range l {
		l[i].Parts = slices.Clone(l[i].Parts)
	}
	return l
}

func sameProof(a, b api.Proof) bool {
	return a.N == b.N && a.Root == b.Root && slices.Equal(a.Parts, b.Parts)
}

func build(t *testing.T, p uint64) []api.Proof {
	t.Helper()
	l, e := prime.Build(p)
	if e != api.OK {
		t.Fatalf("Build(%d): %d", p, e)
	}
	return l
}

// slowPrime: has n no divisor but 1 and itself?
func slowPrime(n uint64) bool {
	if n < 2 {
		return false
	}
	for d := uint64(2); d*d <= n; d++ {
		if n%d == 0 {
			return false
		}
	}
	return true
}

func slowParts(n uint64) []api.Part {
	var l []api.Part
	for d := uint64(2); d <= n; d++ {
		times := 0
		for ; n%d == 0; n /= d {
			times++
		}
		if times > 0 {
			l = append(l, api.Part{Prime: d, Times: times})
		}
	}
	return l
}

// order: which power of a, from 1 on, is 1 modulo n (0: none)?
func order(n, a uint64) uint64 {
	x := uint64(1)
	for k := uint64(1); k <= n; k++ {
		x = x * a % n
		if x == 1 {
			return k
		}
	}
	return 0
}

// slowBuild is what Build should tell of a small prime.
func slowBuild(p uint64) []api.Proof {
	inList := map[uint64]bool{p: true}
	for n := p; n > 2; n-- {
		if inList[n] {
			for _, part := range slowParts(n - 1) {
				inList[part.Prime] = true
			}
		}
	}
	var l []api.Proof
	for n := uint64(3); n <= p; n++ {
		if !inList[n] {
			continue
		}
		root := uint64(1)
		for order(n, root) != n-1 {
			root++
		}
		l = append(l, api.Proof{N: n, Root: root, Parts: slowParts(n - 1)})
	}
	return l
}

// odd is a list of the first odd primes' proofs: each shows.
func odd(t *testing.T, count int) []api.Proof {
	t.Helper()
	var l []api.Proof
	for n := uint64(3); len(l) < count; n += 2 {
		if slowPrime(n) {
			own := build(t, n)
			l = append(l, own[len(own)-1])
		}
	}
	return l
}

// finds asks First and Check which proof of a list is the first that fails.
func finds(t *testing.T, name string, l []api.Proof, first int) {
	t.Helper()
	if got := prime.First(l); got != first {
		t.Errorf("%s: First: %d, not %d", name, got, first)
	}
	if got := prime.Check(l); got != (first == len(l)) {
		t.Errorf("%s: Check: %t", name, got)
	}
}

func TestP2_1Shown(t *testing.T) {
	finds(t, "none", nil, 0)
	finds(t, "empty", []api.Proof{}, 0)
	finds(t, "7", []api.Proof{
		{N: 3, Root: 2, Parts: []api.Part{{Prime: 2, Times: 1}}},
		{N: 7, Root: 3, Parts: []api.Part{{Prime: 2, Times: 1}, {Prime: 3, Times: 1}}},
	}, 2)
	finds(t, "7, by a greater root", []api.Proof{
		{N: 3, Root: 2, Parts: []api.Part{{Prime: 2, Times: 1}}},
		{N: 7, Root: 5, Parts: []api.Part{{Prime: 2, Times: 1}, {Prime: 3, Times: 1}}},
	}, 2)
	finds(t, "65537", []api.Proof{{N: 65537, Root: 3, Parts: []api.Part{{Prime: 2, Times: 16}}}}, 1)
	finds(t, "with more than is needed", odd(t, 20), 20)
	for _, p := range []uint64{mersenne, halfWord, most} {
		l := build(t, p)
		finds(t, "a great one", l, len(l))
	}
}

// Each way in which a proof may be none, or show nothing, is found at its place.
func TestP2_1Fails(t *testing.T) {
	good := build(t, 43) // of 3, 7 and 43
	if len(good) != 3 || good[2].Root != 3 {
		t.Fatal(good)
	}
	for name, spoil := range map[string]func(f *api.Proof){
		"N 0":                    func(f *api.Proof) { f.N = 0 },
		"N 1":                    func(f *api.Proof) { f.N = 1 },
		"N 2":                    func(f *api.Proof) { f.N = 2 },
		"N one more":             func(f *api.Proof) { f.N++ },
		"N the same":             func(f *api.Proof) { *f = good[1] },
		"N below":                func(f *api.Proof) { *f = api.Proof{N: 5, Root: 2, Parts: []api.Part{{Prime: 2, Times: 2}}} },
		"N too great":            func(f *api.Proof) { f.N = api.MostPrime },
		"N a whole word":         func(f *api.Proof) { f.N = wholeWord },
		"root 0":                 func(f *api.Proof) { f.Root = 0 },
		"root 1":                 func(f *api.Proof) { f.Root = 1 },
		"root -1":                func(f *api.Proof) { f.Root = 42 },
		"root a square":          func(f *api.Proof) { f.Root = 9 },
		"root a third power":     func(f *api.Proof) { f.Root = 27 },
		"root a seventh power":   func(f *api.Proof) { f.Root = 37 },
		"root N":                 func(f *api.Proof) { f.Root = 43 },
		"root beyond N":          func(f *api.Proof) { f.Root = 46 },
		"root a whole word":      func(f *api.Proof) { f.Root = wholeWord },
		"no parts":               func(f *api.Proof) { f.Parts = nil },
		"a part less":            func(f *api.Proof) { f.Parts = f.Parts[:2] },
		"the first part less":    func(f *api.Proof) { f.Parts = f.Parts[1:] },
		"a part more":            func(f *api.Proof) { f.Parts = append(f.Parts, api.Part{Prime: 43, Times: 1}) },
		"a part of no times":     func(f *api.Proof) { f.Parts = append(f.Parts, api.Part{Prime: 11, Times: 0}) },
		"a part of 1":            func(f *api.Proof) { f.Parts = slices.Insert(f.Parts, 0, api.Part{Prime: 1, Times: 1}) },
		"a part of 0":            func(f *api.Proof) { f.Parts = slices.Insert(f.Parts, 0, api.Part{Prime: 0, Times: 1}) },
		"times 0":                func(f *api.Proof) { f.Parts[1].Times = 0 },
		"times -1":               func(f *api.Proof) { f.Parts[0].Times = -1 },
		"times least":            func(f *api.Proof) { f.Parts[0].Times = math.MinInt },
		"times 2":                func(f *api.Proof) { f.Parts[2].Times = 2 },
		"times 65":               func(f *api.Proof) { f.Parts[0].Times = 65 },
		"times greatest":         func(f *api.Proof) { f.Parts[0].Times = math.MaxInt },
		"parts turned":           func(f *api.Proof) { slices.Reverse(f.Parts) },
		"a part that isn't":      func(f *api.Proof) { f.Parts[2].Prime = 11 },
		"a part not prime":       func(f *api.Proof) { f.Parts = []api.Part{{Prime: 6, Times: 1}, {Prime: 7, Times: 1}} },
		"a part 42":              func(f *api.Proof) { f.Parts = []api.Part{{Prime: 42, Times: 1}} },
		"a prime doubled":        func(f *api.Proof) { f.Parts[1].Prime = 2 },
		"more parts than may be": func(f *api.Proof) { f.Parts = slices.Repeat(f.Parts, 7) },
		"very many parts":        func(f *api.Proof) { f.Parts = slices.Repeat(f.Parts, 10000) },
	} {
		l := copied(good)
		spoil(&l[2])
		finds(t, name, l, 2)
		finds(t, name+", not last", append(l, build(t, 47)...), 2)
	}
}

// Primes rise strictly, each at least once, even where the product would be right.
func TestP2_1Parts(t *testing.T) {
	finds(t, "5", []api.Proof{{N: 5, Root: 2, Parts: []api.Part{{Prime: 2, Times: 1}, {Prime: 2, Times: 1}}}}, 0)
	finds(t, "7", []api.Proof{
		{N: 3, Root: 2, Parts: []api.Part{{Prime: 2, Times: 1}}},
		{N: 7, Root: 3, Parts: []api.Part{{Prime: 3, Times: 1}, {Prime: 2, Times: 1}}},
	}, 1)
	// A part stands in it at least once, though its prime is known.
	for _, times := range []int{0, -1, math.MinInt} {
		finds(t, "5, and 3 not once", []api.Proof{
			{N: 3, Root: 2, Parts: []api.Part{{Prime: 2, Times: 1}}},
			{N: 5, Root: 2, Parts: []api.Part{{Prime: 2, Times: 2}, {Prime: 3, Times: times}}},
		}, 1)
	}
	// 2, 65 times, is 0 in a word of 64 bits, and 2^64 + 2 no product that may be.
	finds(t, "3", []api.Proof{{N: 3, Root: 2, Parts: []api.Part{{Prime: 2, Times: 65}}}}, 0)
	finds(t, "a whole word's end", []api.Proof{{N: 3, Root: 2, Parts: []api.Part{{Prime: 2, Times: 1}, {Prime: 9223372036854775809, Times: 1}}}}, 0)
}

// A prime of a part stands ahead in the list, not behind, nor is it missing; and N rise.
func TestP2_1Ahead(t *testing.T) {
	three, seven := build(t, 7)[0], build(t, 7)[1]
	five := build(t, 5)[0]
	for i, c := range []struct {
		l     []api.Proof
		first int
	}{
		{[]api.Proof{seven}, 0},
		{[]api.Proof{five, seven}, 1},
		{[]api.Proof{seven, three}, 0},
		{[]api.Proof{three, three}, 1},
		{[]api.Proof{three, seven, seven}, 2},
		{[]api.Proof{three, seven, three}, 2},
		{[]api.Proof{five, three}, 1},
		{[]api.Proof{five, three, seven}, 1},
		{[]api.Proof{three, seven, five}, 2},
		{[]api.Proof{three, five, seven}, 3},
		{[]api.Proof{{}, three}, 0},
		{[]api.Proof{{N: 2, Root: 1}}, 0}, // 2 needs no proof, and has none
		{[]api.Proof{{N: 2, Root: 1, Parts: []api.Part{{Prime: 2, Times: 0}}}, three}, 0},
		{[]api.Proof{{N: 1}, three}, 0},
		{[]api.Proof{three, {}}, 1},
	} {
		if got := prime.First(c.l); got != c.first || prime.Check(c.l) != (got == len(c.l)) {
			t.Error(i, got)
		}
	}
	for i, f := range build(t, mersenne) {
		if l := slices.Delete(build(t, mersenne), i, i+1); f.N != mersenne && prime.Check(l) {
			t.Errorf("it leans on %d", f.N)
		}
	}
	// 9 can't stand ahead of what leans on it.
	finds(t, "37 by 9", []api.Proof{
		{N: 9, Root: 2, Parts: []api.Part{{Prime: 2, Times: 3}}},
		{N: 37, Root: 2, Parts: []api.Part{{Prime: 4, Times: 1}, {Prime: 9, Times: 1}}},
	}, 0)
}

// A number above 2^63 can't be shown, though all its powers are right.
func TestP2_1TooGreat(t *testing.T) {
	three := build(t, 3)
	finds(t, "below", append(three, api.Proof{N: 1<<53*729 + 1, Root: 7, Parts: []api.Part{{Prime: 2, Times: 53}, {Prime: 3, Times: 6}}}), 2)
	above := append(three, api.Proof{N: 1<<59*27 + 1, Root: 5, Parts: []api.Part{{Prime: 2, Times: 59}, {Prime: 3, Times: 3}}})
	finds(t, "above", above, 1)
	if prime.Shows(above, 1<<59*27+1) || prime.Shows(nil, tooGreat) {
		t.Error("Shows")
	}
}

func TestP2_1Many(t *testing.T) {
	l := odd(t, 230)
	for _, n := range []int{1, 2, 199, 200} {
		finds(t, "so many as may be", l[:n], n)
	}
	for _, n := range []int{201, 202, 230} {
		if got := prime.First(l[:n]); got != 200 || prime.Check(l[:n]) || prime.Shows(l[:n], 3) || prime.Shows(l[:n], 2) {
			t.Errorf("%d are too many: %d", n, got)
		}
	}
	for _, c := range []struct{ wrong, of, first int }{{0, 230, 0}, {57, 230, 57}, {199, 200, 199}, {199, 201, 199}, {199, 230, 199}, {200, 201, 200}, {201, 202, 200}, {229, 230, 200}} {
		spoilt := copied(l[:c.of])
		spoilt[c.wrong].Root = 1
		if got := prime.First(spoilt); got != c.first || prime.Check(spoilt) {
			t.Errorf("%d of %d is wrong: %d", c.wrong, c.of, got)
		}
	}
}

func TestP2_1Shows(t *testing.T) {
	l := build(t, 43)
	for p := range uint64(50) {
		if want := p == 2 || p == 3 || p == 7 || p == 43; prime.Shows(l, p) != want {
			t.Errorf("%d: %t", p, !want)
		}
		if prime.Shows(nil, p) != (p == 2) {
			t.Errorf("nothing, and %d", p)
		}
		if prime.Shows(l[1:], p) || prime.Shows(append(copied(l), l[0]), p) {
			t.Errorf("a list that doesn't hold, and %d", p)
		}
	}
	for _, p := range []uint64{api.MostPrime, wholeWord, 43 + api.MostPrime} {
		if prime.Shows(l, p) {
			t.Error(p)
		}
	}
	great := build(t, most)
	if !prime.Shows(great, most) || !prime.Shows(great, 2) || prime.Shows(great, unbuilt) {
		t.Error("great ones")
	}
}

func TestP2_2Parts(t *testing.T) {
	for n := uint64(1); n < 3000; n++ {
		if l, e := prime.Parts(n); e != api.OK || !slices.Equal(l, slowParts(n)) {
			t.Fatalf("Parts(%d): %v, %d", n, l, e)
		}
	}
	for _, c := range []struct {
		n uint64
		l []api.Part
	}{
		{1, nil},
		{360, []api.Part{{Prime: 2, Times: 3}, {Prime: 3, Times: 2}, {Prime: 5, Times: 1}}},
		{65521, []api.Part{{Prime: 65521, Times: 1}}},
		{65536, []api.Part{{Prime: 2, Times: 16}}},
		{65537, []api.Part{{Prime: 65537, Times: 1}}},
		{65521 * 65521, []api.Part{{Prime: 65521, Times: 2}}},
		{65521 * 65521 * 65521, []api.Part{{Prime: 65521, Times: 3}}},
		{65521 * 65537, []api.Part{{Prime: 65521, Times: 1}, {Prime: 65537, Times: 1}}},
		{halfWord, []api.Part{{Prime: halfWord, Times: 1}}},
		{1<<32 - 1, []api.Part{{Prime: 3, Times: 1}, {Prime: 5, Times: 1}, {Prime: 17, Times: 1}, {Prime: 257, Times: 1}, {Prime: 65537, Times: 1}}},
		{1 << 32, []api.Part{{Prime: 2, Times: 32}}},
		{3 << 30, []api.Part{{Prime: 2, Times: 30}, {Prime: 3, Times: 1}}},
		{65521 * halfWord, []api.Part{{Prime: 65521, Times: 1}, {Prime: halfWord, Times: 1}}},
		{1 << 62, []api.Part{{Prime: 2, Times: 62}}},
		{4052555153018976267, []api.Part{{Prime: 3, Times: 39}}},
	} {
		if l, e := prime.Parts(c.n); e != api.OK || !slices.Equal(l, c.l) {
			t.Errorf("Parts(%d): %v, %d", c.n, l, e)
		}
	}
}

func TestP2_2PartsRefuses(t *testing.T) {
	for _, c := range []struct {
		n uint64
		e api.Errno
	}{
		{0, api.ErrArg},
		{api.MostPrime, api.ErrArg},
		{api.MostPrime + 2, api.ErrArg},
		{tooGreat, api.ErrArg},
		{wholeWord, api.ErrArg},
		{overHalf, api.ErrLong}, // a prime
		{2 * overHalf, api.ErrLong},
		{twin, api.ErrLong},
		{32768 * twin, api.ErrLong},
		{below, api.ErrLong},
		{mersenne, api.ErrLong},
		{api.MostPrime - 1, api.ErrLong}, // 92737 times 649657 is left
		{unbuilt, api.ErrLong},
		{unbuilt - 1, api.ErrLong},
	} {
		if l, e := prime.Parts(c.n); e != c.e || len(l) != 0 {
			t.Errorf("Parts(%d): %v, %d, not %d", c.n, l, e, c.e)
		}
	}
}

func TestP2_2Small(t *testing.T) {
	for n := range uint64(5000) {
		if prime.Small(n) != slowPrime(n) {
			t.Errorf("Small(%d)", n)
		}
	}
	for n := uint64(65500); n < 65600; n++ {
		if prime.Small(n) != slowPrime(n) || prime.Small(n*n) {
			t.Errorf("Small(%d)", n)
		}
	}
	for n := uint64(1<<32 - 100); n < 1<<32+100; n++ {
		if want := n < 1<<32 && slowPrime(n); prime.Small(n) != want {
			t.Errorf("Small(%d): %t", n, !want)
		}
	}
	for _, n := range []uint64{561, 3215031751, 65521 * 65521, 65519 * 65537, overHalf, 1<<32 + 2, 1<<32 + 3, 1<<33 + 2, mersenne, unbuilt, api.MostPrime, tooGreat, wholeWord} {
		if prime.Small(n) {
			t.Errorf("Small(%d)", n)
		}
	}
}

func TestP2_3Build(t *testing.T) {
	for p := uint64(2); p < 2500; p++ {
		l, e := prime.Build(p)
		if !slowPrime(p) {
			if e != api.ErrNone || len(l) != 0 {
				t.Fatalf("Build(%d): %v, %d", p, l, e)
			}
			continue
		}
		if want := slowBuild(p); e != api.OK || !slices.EqualFunc(l, want, sameProof) {
			t.Fatalf("Build(%d): %v, %d, not %v", p, l, e, want)
		}
	}
}

// leastRoot by another way: big numbers, and the parts that are told.
func leastRoot(f api.Proof) uint64 {
	n := new(big.Int).SetUint64(f.N)
	for root := uint64(1); ; root++ {
		r := new(big.Int).SetUint64(root)
		whole := true
		for _, part := range f.Parts {
			k := new(big.Int).SetUint64((f.N - 1) / part.Prime)
			whole = whole && new(big.Int).Exp(r, k, n).Cmp(big.NewInt(1)) != 0
		}
		if whole {
			return root
		}
	}
}

func TestP2_3BuildGreat(t *testing.T) {
	for _, p := range []uint64{65537, 71999, halfWord, 2*halfWord + 1, 96*halfWord + 1, mersenne, most, api.MostPrime - 391, api.MostPrime - 649} {
		l := build(t, p)
		needed := map[uint64]bool{p: true}
		for i := len(l) - 1; i >= 0; i-- {
			f := l[i]
			if !needed[f.N] || f.N == 2 || i > 0 && l[i-1].N >= f.N {
				t.Errorf("Build(%d): %d isn't needed, or not there", p, f.N)
			}
			for _, part := range f.Parts {
				needed[part.Prime] = true
			}
			if want, e := prime.Parts(f.N - 1); e != api.OK || !slices.Equal(f.Parts, want) || leastRoot(f) != f.Root {
				t.Errorf("Build(%d): %v, not %v, %d", p, f, want, leastRoot(f))
			}
		}
		delete(needed, 2)
		if len(needed) != len(l) || !prime.Shows(l, p) {
			t.Errorf("Build(%d): %d, not %d", p, len(l), len(needed))
		}
	}
}

func TestP2_3BuildRefuses(t *testing.T) {
	if l, e := prime.Build(2); e != api.OK || len(l) != 0 {
		t.Error(l, e)
	}
	for _, c := range []struct {
		p uint64
		e api.Errno
	}{
		{0, api.ErrArg},
		{1, api.ErrArg},
		{api.MostPrime, api.ErrArg},
		{api.MostPrime + 1, api.ErrArg},
		{tooGreat, api.ErrArg},
		{wholeWord, api.ErrArg},
		{unbuilt, api.ErrLong},         // a prime
		{12*overHalf + 1, api.ErrLong}, // a prime
		{twin + 1, api.ErrLong},        // even
		{2*overHalf + 1, api.ErrLong},  // odd, and no prime
		{overHalf + 1, api.ErrLong},    // even, above a prime
		{4, api.ErrNone},
		{9, api.ErrNone},
		{15, api.ErrNone},
		{35, api.ErrNone},
		{37 * 37, api.ErrNone},
		{41 * 41, api.ErrNone},
		{41 * 43, api.ErrNone},
		{561, api.ErrNone},
		{65536, api.ErrNone},
		{3215031751, api.ErrNone}, // they look prime to few powers
		{2152302898747, api.ErrNone},
		{3474749660383, api.ErrNone},
		{341550071728321, api.ErrNone},
		{sly, api.ErrNone},
		{twin, api.ErrNone},
		{1 << 32, api.ErrNone},
		{2 * halfWord, api.ErrNone},
		{1<<62 + 1, api.ErrNone},
	} {
		if l, e := prime.Build(c.p); e != c.e || len(l) != 0 {
			t.Errorf("Build(%d): %v, %d, not %d", c.p, l, e, c.e)
		}
	}
}

// Whatever its Root, what is shown is prime: all numbers, with all that stands ahead of them.
func TestP2_4Shown(t *testing.T) {
	ahead := []api.Proof{}
	for n := uint64(3); n < 150; n++ {
		var shown []api.Proof
		for root := uint64(0); root < n+3; root++ {
			l := append(ahead[:len(ahead):len(ahead)], api.Proof{N: n, Root: root, Parts: slowParts(n - 1)})
			want := slowPrime(n) && root < n && order(n, root) == n-1
			if prime.Check(l) != want || prime.Shows(l, n) != want {
				t.Fatalf("%d by %d: %t", n, root, !want)
			}
			if want {
				shown = l
			}
		}
		if shown != nil {
			ahead = shown
		}
	}
}

func TestP2_4Built(t *testing.T) {
	for p := uint64(2); p < 3000; p++ {
		if l, e := prime.Build(p); e == api.OK && (!slowPrime(p) || !prime.Shows(l, p)) {
			t.Errorf("%d: %v", p, l)
		}
	}
	// All of some great ones that can be built, and none else, are prime.
	for p := uint64(api.MostPrime - 700); p < api.MostPrime; p++ {
		isPrime := new(big.Int).SetUint64(p).ProbablyPrime(20)
		l, e := prime.Build(p)
		_, long := prime.Parts(p - 1)
		switch {
		case long != api.OK:
			if e != long || len(l) != 0 {
				t.Errorf("%d: %d, not %d", p, e, long)
			}
		case !isPrime:
			if e != api.ErrNone || len(l) != 0 {
				t.Errorf("%d: %d", p, e)
			}
		default:
			if e != api.OK || !prime.Shows(l, p) {
				t.Errorf("%d: %d", p, e)
			}
		}
	}
}

// Lists that are handed in stay as they are, and so does what lies behind them; and answers are new.
func TestListsStay(t *testing.T) {
	room := odd(t, 30)
	kept := copied(room)
	prime.First(room[:10])
	prime.Check(room[3:20])
	prime.Shows(room[:10], 31)
	prime.Shows(room, 2)
	if !slices.EqualFunc(room, kept, sameProof) {
		t.Error("changed")
	}
	l := build(t, mersenne)
	for i := range l {
		parts := append(l[i].Parts, api.Part{Prime: 1, Times: 1})
		for j := range parts {
			parts[j] = api.Part{}
		}
		l[i].N, l[i].Root = 0, 0
		if i+1 < len(l) && len(l[i+1].Parts) > 0 && l[i+1].Parts[0].Prime != 2 {
			t.Error("two lists share")
		}
	}
	if again := build(t, mersenne); !prime.Shows(again, mersenne) {
		t.Error("kept")
	}
}
