package frame_test

import (
	"bytes"
	"encoding/binary"
	"math"
	"math/big"
	"slices"
	"testing"

	"affidavit/api"
	"affidavit/frame"
)

const (
	modulus = 16777213
	summed  = 1 << 17 // bytes at most
	most    = 9000    // numbers of a body
)

// dice makes numbers that look like chance and are the same each time.
type dice uint64

func (d *dice) word() uint64 {
	*d ^= *d << 13
	*d ^= *d >> 7
	*d ^= *d << 17
	return uint64(*d)
}

func (d *dice) below(n int) int { return int(d.word() % uint64(n)) }

func (d *dice) bytes(many int) []byte {
	b := make([]byte, many)
	for i := range b {
		b[i] = byte(d.word() >> 20)
	}
	return b
}

func (d *dice) words(many int) []uint64 {
	l := make([]uint64, many)
	for i := range l {
		l[i] = d.word() >> d.below(64)
	}
	return l
}

// frame that may be, of so many numbers.
func (d *dice) frame(many int) api.Frame {
	return api.Frame{Kind: 1 + d.below(4), Round: d.below(256), Num: uint32(d.word() >> 17), Body: d.words(many)}
}

// The slow ways, by other packages of the library and from the words of the chapter alone.

func slowSum(b []byte) int {
	sum := new(big.Int)
	for i, x := range b {
		sum.Add(sum, new(big.Int).Mul(big.NewInt(int64(i+1)), big.NewInt(int64(x))))
	}
	return int(sum.Mod(sum, big.NewInt(modulus)).Int64())
}

// sealed is bytes and their sum behind them.
func sealed(b []byte) []byte {
	four := binary.BigEndian.AppendUint32(nil, uint32(slowSum(b)))
	return append(slices.Clone(b), four[1:]...)
}

// opened is a frame's bytes ahead of its sum, whatever its parts are.
func opened(first, kind, round byte, num uint32, many uint16, body []uint64) []byte {
	b := []byte{first, kind, round}
	b = binary.BigEndian.AppendUint32(b, num)
	b = binary.BigEndian.AppendUint16(b, many)
	for _, x := range body {
		b = binary.BigEndian.AppendUint64(b, x)
	}
	return b
}

func slowBytes(f api.Frame) []byte {
	return sealed(opened(163, byte(f.Kind), byte(f.Round), f.Num, uint16(len(f.Body)), f.Body))
}

func same(f, g api.Frame) bool {
	return f.Kind == g.Kind && f.Round == g.Round && f.Num == g.Num && slices.Equal(f.Body, g.Body)
}

// read asks that all of b is this frame.
func read(t *testing.T, b []byte, want api.Frame) {
	t.Helper()
	if f, e := frame.Read(b); e != api.OK || !same(f, want) {
		t.Fatalf("Read of %d bytes: %d, kind %d of round %d, number %d, %d numbers", len(b), e, f.Kind, f.Round, f.Num, len(f.Body))
	}
}

// next asks that b begins with this frame, of so many bytes.
func next(t *testing.T, b []byte, want api.Frame, long int) {
	t.Helper()
	if f, n, e := frame.Next(b); e != api.OK || n != long || !same(f, want) {
		t.Fatalf("Next of %d bytes: %d, %d bytes, kind %d of round %d, number %d, %d numbers", len(b), e, n, f.Kind, f.Round, f.Num, len(f.Body))
	}
}

// refused asks that neither Next nor Read finds a frame, and why.
func refused(t *testing.T, what string, b []byte, want api.Errno) {
	t.Helper()
	if f, n, e := frame.Next(b); e != want || n != 0 || !same(f, api.Frame{}) {
		t.Errorf("%s: Next of %d bytes: %d, %d bytes, %v, not %d", what, len(b), e, n, f, want)
	}
	if f, e := frame.Read(b); e != want || !same(f, api.Frame{}) {
		t.Errorf("%s: Read of %d bytes: %d, %v, not %d", what, len(b), e, f, want)
	}
}

// frames that may be: any kind, and the edges of all else.
func frames() []api.Frame {
	d := dice(1)
	l := []api.Frame{{Kind: api.Claim, Num: 1}, {Kind: api.Done, Body: []uint64{}}}
	for kind := 1; kind <= 4; kind++ {
		for _, round := range []int{0, 1, 15, 16, 127, 128, 254, 255} {
			for _, num := range []uint32{0, 1, 255, 256, 65535, 65536, 1<<24 - 1, 1 << 24, 1 << 31, 0x01020304, math.MaxUint32} {
				l = append(l, api.Frame{Kind: kind, Round: round, Num: num, Body: d.words(d.below(4))})
			}
		}
	}
	for _, many := range []int{1, 2, 3, 31, 32, 255, 256, 257, 4095, 4096, 8192, most - 1, most} {
		l = append(l, d.frame(many))
	}
	for _, x := range []uint64{0, 1, 255, 256, 1<<32 - 1, 1 << 32, 1<<63 - 1, 1 << 63, 0x0102030405060708, math.MaxUint64} {
		l = append(l, api.Frame{Kind: api.Answer, Body: []uint64{x}}, api.Frame{Kind: api.Ask, Body: []uint64{0, x, 0}})
	}
	return append(l, api.Frame{Kind: 4, Round: 255, Num: math.MaxUint32, Body: slices.Repeat([]uint64{math.MaxUint64}, most)})
}

func wrongFrames() []api.Frame {
	var l []api.Frame
	for _, kind := range []int{0, 5, -1, 6, 255, 256, 257, 260, 1 << 32, 1<<32 + 1, -255, -1 << 32, math.MinInt, math.MaxInt} {
		l = append(l, api.Frame{Kind: kind}, api.Frame{Kind: kind, Round: 3, Num: 4, Body: []uint64{5}})
	}
	for _, round := range []int{-1, 256, 257, -256, 1 << 32, -1 << 32, math.MinInt, math.MaxInt} {
		l = append(l, api.Frame{Kind: 1, Round: round}, api.Frame{Kind: 4, Round: round, Num: 4, Body: []uint64{5}})
	}
	for _, many := range []int{most + 1, most + 2, 16384, 65535, 65536, 65537, 65536 + most, 100000} {
		l = append(l, api.Frame{Kind: 1, Body: make([]uint64, many)}, api.Frame{Kind: 3, Round: 255, Num: 7, Body: make([]uint64, many)})
	}
	return append(l, api.Frame{}, api.Frame{Kind: 5, Round: 256, Body: make([]uint64, most+1)})
}

func TestP11_1May(t *testing.T) {
	for _, f := range frames() {
		if !frame.May(f) {
			t.Errorf("kind %d of round %d, number %d, %d numbers", f.Kind, f.Round, f.Num, len(f.Body))
		}
	}
	for _, f := range wrongFrames() {
		if frame.May(f) {
			t.Errorf("kind %d of round %d, number %d, %d numbers", f.Kind, f.Round, f.Num, len(f.Body))
		}
	}
	for kind := -300; kind < 600; kind++ {
		if frame.May(api.Frame{Kind: kind}) != (kind >= 1 && kind <= 4) {
			t.Errorf("kind %d", kind)
		}
		if frame.May(api.Frame{Kind: 2, Round: kind}) != (kind >= 0 && kind <= 255) {
			t.Errorf("round %d", kind)
		}
	}
	if !frame.May(api.Frame{Kind: 1, Body: make([]uint64, most, most+5)}) {
		t.Error("spare room is no part of a body")
	}
}

func TestP11_1Sum(t *testing.T) {
	d := dice(3)
	for _, n := range []int{0, 1, 2, 3, 9, 12, 20, 100, 255, 256, 257, 1000, 65535, 65536, 65537, 72009, summed - 2, summed - 1, summed} {
		for _, b := range [][]byte{make([]byte, n), bytes.Repeat([]byte{1}, n), bytes.Repeat([]byte{255}, n), d.bytes(n), d.bytes(n)} {
			if sum := frame.Sum(b); sum != slowSum(b) {
				t.Errorf("of %d bytes %d, not %d", n, sum, slowSum(b))
			}
		}
	}
	for _, n := range []int{summed + 1, summed + 2, 2 * summed, 1 << 20} {
		if sum := frame.Sum(bytes.Repeat([]byte{1}, n)); sum != 0 {
			t.Errorf("of %d bytes %d", n, sum)
		}
	}
}

func TestP11_1SumKnown(t *testing.T) {
	// 255 at the place 65792 is 253 less than the modulus.
	near := make([]byte, 65792)
	near[65791] = 255
	turned := func(first, last byte) []byte {
		b := slices.Clone(near)
		b[0], b[65791] = first, last
		return b
	}
	for _, c := range []struct {
		b   []byte
		sum int
	}{
		{nil, 0}, {[]byte{}, 0}, {[]byte{0}, 0}, {[]byte{1}, 1}, {[]byte{255}, 255}, {[]byte{0, 1}, 2}, {[]byte{1, 2, 3}, 14}, {[]byte{3, 2, 1}, 10},
		{[]byte{163, 1, 0, 0, 0, 0, 1, 0, 0}, 172}, {bytes.Repeat([]byte{1}, 100), 5050},
		{near, modulus - 253}, {turned(252, 255), modulus - 1}, {turned(253, 255), 0}, {turned(254, 255), 1}, {turned(255, 255), 2}, {turned(255, 254), modulus - 65537 - 253},
		{bytes.Repeat([]byte{255}, summed), 255 * (summed / 2) * (summed + 1) % modulus},
	} {
		if sum := frame.Sum(c.b); sum != c.sum {
			t.Errorf("of %d bytes %d, not %d", len(c.b), sum, c.sum)
		}
	}
}

func TestP11_1Put(t *testing.T) {
	for _, f := range frames() {
		b, e := frame.Put(f)
		if e != api.OK || !bytes.Equal(b, slowBytes(f)) || len(b) != 12+8*len(f.Body) {
			t.Errorf("kind %d of round %d, number %d, %d numbers: %d, %d bytes", f.Kind, f.Round, f.Num, len(f.Body), e, len(b))
		}
	}
}

func TestP11_1PutKnown(t *testing.T) {
	for _, c := range []struct {
		f api.Frame
		b []byte
	}{
		{api.Frame{Kind: api.Claim, Num: 1}, []byte{163, 1, 0, 0, 0, 0, 1, 0, 0, 0, 0, 172}},
		{api.Frame{Kind: api.Ask, Round: 3, Num: 0x01020304}, []byte{163, 2, 3, 1, 2, 3, 4, 0, 0, 0, 0, 163 + 4 + 9 + 4 + 10 + 18 + 28}},
		{api.Frame{Kind: api.Done, Round: 255, Num: math.MaxUint32, Body: []uint64{0x0102030405060708}}, []byte{
			163, 4, 255, 255, 255, 255, 255, 0, 1, 1, 2, 3, 4, 5, 6, 7, 8,
			0, 27, 163 + 8 + 255*25 + 9 + 10 + 22 + 36 + 52 + 70 + 90 + 112 + 136 - 27*256,
		}},
	} {
		if b, e := frame.Put(c.f); e != api.OK || !bytes.Equal(b, c.b) {
			t.Errorf("%v: %v, %d, not %v", c.f, b, e, c.b)
		}
		read(t, c.b, c.f)
	}
	b, e := frame.Put(api.Frame{Kind: 3, Body: make([]uint64, most)})
	if e != api.OK || len(b) != 72012 || b[7] != 9000/256 || b[8] != 9000%256 {
		t.Error(len(b), e)
	}
}

func TestP11_1PutRefuses(t *testing.T) {
	for _, f := range wrongFrames() {
		if b, e := frame.Put(f); e != api.ErrArg || len(b) != 0 {
			t.Errorf("kind %d of round %d, %d numbers: %v, %d", f.Kind, f.Round, len(f.Body), b, e)
		}
	}
}

// What stands behind a frame is none of Next's business, and too much for Read.
func TestP11_2Behind(t *testing.T) {
	d := dice(5)
	for _, f := range frames() {
		b := slowBytes(f)
		next(t, b, f, len(b))
		read(t, b, f)
		for _, behind := range [][]byte{{0}, {163}, d.bytes(11), slowBytes(d.frame(2)), make([]byte, 100), b} {
			all := slices.Concat(b, behind)
			next(t, all, f, len(b))
			if g, e := frame.Read(all); e != api.ErrForm || !same(g, api.Frame{}) {
				t.Fatalf("%d bytes behind: %v, %d", len(behind), g, e)
			}
		}
	}
	f := d.frame(3)
	b := slowBytes(f)
	all := slices.Concat(b, make([]byte, 3*summed))
	next(t, all, f, len(b))
	if g, e := frame.Read(all); e != api.ErrForm || !same(g, api.Frame{}) {
		t.Error(g, e)
	}
}

// Frames one behind the other are taken off one by one.
func TestP11_2OneByOne(t *testing.T) {
	d := dice(7)
	var l []api.Frame
	var b []byte
	for range 60 {
		f := d.frame(d.below(6))
		l = append(l, f)
		b = append(b, slowBytes(f)...)
	}
	for _, f := range l {
		long := 12 + 8*len(f.Body)
		next(t, b, f, long)
		b = b[long:]
	}
	refused(t, "none is left", b, api.ErrLong)
}

func TestP11_2TooFew(t *testing.T) {
	for _, f := range frames() {
		b := slowBytes(f)
		for n := range len(b) {
			if n > 40 && n < len(b)-20 && n%997 != 0 {
				continue
			}
			refused(t, "cut", slices.Clone(b[:n]), api.ErrLong)
			refused(t, "cut, and the rest is spare room", b[:n], api.ErrLong)
		}
	}
	refused(t, "nil", nil, api.ErrLong)
	// Of fewer than 12 bytes it isn't asked what they are.
	d := dice(9)
	for n := range 12 {
		refused(t, "noughts", make([]byte, n), api.ErrLong)
		refused(t, "any", d.bytes(n), api.ErrLong)
		refused(t, "a wrong kind", bytes.Repeat([]byte{163}, n), api.ErrLong)
		refused(t, "too many numbers", append([]byte{163, 1, 0, 0, 0, 0, 1, 255, 255, 0, 0, 0}[:n:n], nil...), api.ErrLong)
	}
}

// Each first byte, each kind, and all that the two bytes of how many may tell, the sum being what it should.
func TestP11_2Form(t *testing.T) {
	for x := range 256 {
		c := byte(x)
		b, want := sealed(opened(c, 1, 0, 1, 0, nil)), api.ErrForm
		if c != 163 {
			refused(t, "the first byte", b, want)
			refused(t, "the first byte of twelve, with a wrong sum", append(b[:11:11], b[11]+1), want)
			refused(t, "the first byte of too few", sealed(opened(c, 1, 0, 1, 2, []uint64{1})), want)
		} else {
			read(t, b, api.Frame{Kind: 1, Num: 1})
		}
		b = sealed(opened(163, c, 9, 1, 1, []uint64{7}))
		if c < 1 || c > 4 {
			refused(t, "the kind", b, want)
			refused(t, "the kind, with a wrong sum", append(b[:19:19], b[19]+1), want)
			refused(t, "the kind, of too few", b[:19], want)
			refused(t, "the kind, of just 12", b[:12], want)
		} else {
			read(t, b, api.Frame{Kind: x, Round: 9, Num: 1, Body: []uint64{7}})
		}
	}
	short := make([]byte, 3)
	for many := range 1 << 16 {
		b := append(opened(163, 3, 4, 5, uint16(many), nil), short...)
		want := api.ErrLong
		if many > most {
			want = api.ErrForm
		} else if many == 0 {
			want = api.ErrSum
		}
		refused(t, "how many", b, want)
	}
}

// More numbers than may be, all of them there and their sum right.
func TestP11_2TooMany(t *testing.T) {
	for _, many := range []int{most + 1, most + 2, 9216, 10000, 16000} {
		refused(t, "too many", sealed(opened(163, 1, 0, 1, uint16(many), make([]uint64, many))), api.ErrForm)
	}
	refused(t, "more than two bytes tell", sealed(opened(163, 1, 0, 1, 65535, make([]uint64, 65535))), api.ErrForm)
}

func TestP11_2Sum(t *testing.T) {
	d := dice(11)
	for _, many := range []int{0, 1, 5, 100, most} {
		f := d.frame(many)
		b := slowBytes(f)
		sum := slowSum(b[:len(b)-3])
		for _, other := range []int{sum + 1, sum - 1, sum + 256, sum + 65536, sum ^ 1<<23, 0, modulus, 1<<24 - 1, sum + d.below(1<<24)} {
			if other &= 1<<24 - 1; other == sum {
				continue
			}
			turned := append(slices.Clone(b[:len(b)-3]), byte(other>>16), byte(other>>8), byte(other))
			refused(t, "another sum", turned, api.ErrSum)
			// What stands behind it is asked for only where a frame is.
			refused(t, "another sum, and more behind", append(turned, 1, 2, 3), api.ErrSum)
		}
	}
	// The sum of but some of the bytes doesn't do.
	b := opened(163, 2, 1, 3, 1, []uint64{4})
	refused(t, "of the first nine", append(slices.Clone(b), 0, byte(slowSum(b[:9])>>8), byte(slowSum(b[:9]))), api.ErrSum)
	refused(t, "of the numbers", append(slices.Clone(b), 0, byte(slowSum(b[9:])>>8), byte(slowSum(b[9:]))), api.ErrSum)
}

// A sum that is 0, or but a little from being so, is told by its rest, not by the same and the modulus.
func TestP11_2SumWraps(t *testing.T) {
	for want := range 3 {
		b := wrapping(want)
		if slowSum(b) != want {
			t.Fatal("no such sum")
		}
		f, e := frame.Read(sealed(b))
		if e != api.OK || len(f.Body) != most {
			t.Error(want, e)
		}
		over := want + modulus
		refused(t, "not the least", append(b, byte(over>>16), byte(over>>8), byte(over)), api.ErrSum)
	}
}

// wrapping is the bytes, ahead of its sum, of a frame whose sum is so much.
func wrapping(want int) []byte {
	b := opened(163, 3, 0, 0, most, slices.Repeat([]uint64{math.MaxUint64}, most))
	missing := (slowSum(b) - want + modulus) % modulus
	for i := len(b) - 1; i >= 9 && missing > 0; i-- {
		less := min(missing/(i+1), int(b[i]))
		b[i] -= byte(less)
		missing -= less * (i + 1)
	}
	return b
}

// Any bytes: none brings anything but a frame that may be, whose bytes they are.
func TestP11_2Any(t *testing.T) {
	d := dice(13)
	found := 0
	for range 20000 {
		b := d.bytes(9 + 8*d.below(6) + d.below(3)/2*d.below(5))
		if d.below(4) > 0 {
			b[0] = 163
		}
		if d.below(4) > 0 {
			b[1], b[7], b[8] = byte(d.below(6)), 0, byte(d.below(6))
		}
		if d.below(4) > 0 {
			b = sealed(b)
		}
		if d.below(4) == 0 {
			b = append(b, d.bytes(d.below(20))...)
		}
		f, n, e := frame.Next(b)
		if e != api.OK {
			refused(t, "any", b, e)
			continue
		}
		found++
		if !frame.May(f) || n > len(b) || !bytes.Equal(slowBytes(f), b[:n]) {
			t.Fatalf("%v: %v, %d bytes", b, f, n)
		}
		if _, e := frame.Read(b); (e == api.OK) != (n == len(b)) {
			t.Fatalf("%v: %d", b, e)
		}
	}
	if found < 100 {
		t.Error("too few frames among them:", found)
	}
}

func TestP11_3PutAndRead(t *testing.T) {
	d := dice(15)
	l := frames()
	for range 2000 {
		l = append(l, d.frame(d.below(40)))
	}
	for _, f := range l {
		b, e := frame.Put(f)
		if e != api.OK {
			t.Fatal(e)
		}
		read(t, b, f)
		next(t, b, f, len(b))
	}
}

// Each byte behind the first nine, changed to each other.
func TestP11_3Changed(t *testing.T) {
	d := dice(17)
	for _, many := range []int{0, 1, 2, 7, 30} {
		b, _ := frame.Put(d.frame(many))
		for at := 9; at < len(b); at++ {
			changed(t, b, at)
		}
	}
}

// Of the greatest frames, where a byte times its place is greater than what the sum is taken modulo.
func TestP11_3ChangedFarBehind(t *testing.T) {
	d := dice(19)
	for _, body := range [][]uint64{d.words(most), make([]uint64, most), slices.Repeat([]uint64{math.MaxUint64}, most)} {
		b, _ := frame.Put(api.Frame{Kind: 3, Round: 2, Num: 9, Body: body})
		whole := frame.Sum(b[:len(b)-3])
		for _, at := range []int{9, 10, 16, 255, 32768, 65535, 65536, 65791, 65792, 65793, 66000, 72008} {
			for x := range 256 {
				if c := slices.Clone(b[:len(b)-3]); c[at] != byte(x) {
					c[at] = byte(x)
					if frame.Sum(c) == whole {
						t.Fatalf("%d for %d at %d has the same sum", x, b[at], at)
					}
				}
			}
		}
		for _, at := range []int{9, 65792, 72008, 72009, 72010, 72011} {
			c := slices.Clone(b)
			c[at]++
			refused(t, "changed", c, api.ErrSum)
		}
	}
}

// changed asks that with another byte at a place nothing is read.
func changed(t *testing.T, b []byte, at int) {
	t.Helper()
	c := slices.Clone(b)
	for x := range 256 {
		if c[at] = byte(x); c[at] != b[at] {
			refused(t, "changed", c, api.ErrSum)
		}
	}
}

const spare = 300 // places behind what is handed in

func roomy[T byte | uint64](l []T) []T {
	return append(slices.Clone(l), slices.Repeat([]T{77}, spare)...)[:len(l)]
}

func untouched[T byte | uint64](room, l []T) bool {
	all := room[:len(l)+spare]
	return slices.Equal(all[:len(l)], l) && !slices.ContainsFunc(all[len(l):], func(x T) bool { return x != 77 })
}

// scribbled is all of a list's room overwritten.
func scribbled[T byte | uint64](l []T) {
	l = l[:cap(l)]
	for i := range l {
		l[i] = 99
	}
}

// What is handed in isn't changed, nor its spare room, and no answer shares with it.
func TestMemory(t *testing.T) {
	d := dice(21)
	for _, many := range []int{0, 1, 3, 100} {
		for _, kind := range []int{1, 4, 5} {
			words := d.words(many)
			f := api.Frame{Kind: kind, Body: roomy(words)}
			frame.May(f)
			b, _ := frame.Put(f)
			scribbled(b)
			if !untouched(f.Body, words) {
				t.Errorf("Put of kind %d, %d numbers", kind, many)
			}
		}
		whole := slowBytes(d.frame(many))
		for _, told := range [][]byte{whole, slices.Concat(whole, whole), whole[:len(whole)-1], whole[1:]} {
			b := roomy(told)
			f, _, _ := frame.Next(b)
			scribbled(f.Body)
			f, _ = frame.Read(b)
			scribbled(f.Body)
			frame.Sum(b)
			if !untouched(b, told) {
				t.Errorf("Next or Read of %d bytes", len(told))
			}
		}
		f, e := frame.Read(whole)
		body := slices.Clone(f.Body)
		scribbled(whole)
		if e != api.OK || !slices.Equal(f.Body, body) {
			t.Errorf("a body of %d numbers changes with its bytes", many)
		}
	}
}
