package claim

import (
	"slices"

	"affidavit/api"
	"affidavit/cup"
	"affidavit/fold"
	"affidavit/matrix"
	"affidavit/own"
	"affidavit/shape"
	"affidavit/solve"
	"affidavit/tape"
	"affidavit/witness"
)

// mostTries to make a claim of an own polynomial, each by other vectors.
const mostTries = 64

// way of a kind, for one task that is right: P being prime, the layers below tell no error, but that there is none. All but read and made are asked of one that has read a claim that is formed.
type way interface {
	read(c []uint64) bool // is it formed?
	says() []uint64
	asked() int
	passes(ask, reply []uint64) bool          // by a challenge that may be
	reply(ask []uint64) ([]uint64, api.Errno) // likewise
	cost() int
	made(a api.Tape) ([]uint64, api.Tape, api.Errno)
}

// wayOf a task.
func wayOf(t api.Task) way {
	b := base{t}
	switch t.Kind {
	case api.Product:
		return &product{base: b}
	case api.Singular:
		return &singular{told{base: b}}
	case api.Rank:
		return &rank{apart{base: b}}
	case api.Profile:
		return &profile{apart{base: b}}
	case api.Det:
		return &det{apart{base: b}}
	case api.Minimal:
		return &minimal{base: b}
	}
	return &solving{told{base: b}}
}

// base of the ways. What they tell of a claim that shows by itself what it says stands here: nothing is asked and replied, and M was done to one vector.
type base struct{ api.Task }

func (b *base) asked() int { return 0 }

func (b *base) passes(_, reply []uint64) bool { return len(reply) == 0 }

func (b *base) reply([]uint64) ([]uint64, api.Errno) { return nil, api.OK }

func (b *base) cost() int { return witness.Cost(b.M) }

// product: what is claimed to be it.
type product struct {
	base
	claimed api.Mat
}

func (w *product) read(c []uint64) bool {
	w.claimed = api.Mat{Rows: w.M.Rows, Cols: w.N.Cols, Cells: c}
	return matrix.Right(w.P, w.claimed)
}

func (w *product) says() []uint64 { return slices.Clone(w.claimed.Cells) }

func (w *product) asked() int { return w.N.Cols }

func (w *product) passes(ask, reply []uint64) bool {
	looks, _ := fold.Looks(w.P, w.M, w.N, w.claimed, ask)
	return looks && len(reply) == 0
}

func (w *product) cost() int { return fold.Cost(w.M, w.N) }

func (w *product) made(a api.Tape) ([]uint64, api.Tape, api.Errno) {
	m, _ := matrix.Mul(w.P, w.M, w.N)
	return m.Cells, a, api.OK
}

// told by a claim's first number: whether something is so (1) or not (0).
type told struct {
	base
	first uint64
}

func (w *told) says() []uint64 { return []uint64{w.first} }

// singular: 1 is shown by a vector, 0 asks for a reply.
type singular struct{ told }

func (w *singular) read(c []uint64) bool {
	if len(c) == 0 {
		return false
	}
	w.first = c[0]
	if w.first == 0 {
		return len(c) == 1
	}
	return w.first == 1 && witness.Singular(w.P, w.M, c[1:])
}

func (w *singular) asked() int {
	if w.first == 0 {
		return w.M.Rows
	}
	return w.told.asked()
}

func (w *singular) passes(ask, reply []uint64) bool {
	if w.first == 0 {
		return witness.Meets(w.P, w.M, ask, reply)
	}
	return w.told.passes(ask, reply)
}

func (w *singular) reply(ask []uint64) ([]uint64, api.Errno) {
	if w.first == 0 {
		return solve.Solve(w.P, w.M, ask)
	}
	return w.told.reply(ask)
}

func (w *singular) made(a api.Tape) ([]uint64, api.Tape, api.Errno) {
	if x, e := solve.Kernel(w.P, w.M); e == api.OK {
		return headed(1, x), a, api.OK
	}
	return []uint64{0}, a, api.OK
}

// solving: 1 and 0 are each shown by a vector.
type solving struct{ told }

func (w *solving) read(c []uint64) bool {
	if len(c) == 0 {
		return false
	}
	w.first = c[0]
	if w.first == 0 {
		return witness.Against(w.P, w.M, w.B, c[1:])
	}
	return w.first == 1 && witness.Solves(w.P, w.M, w.B, c[1:])
}

// cost of a vector that is against a solution: it is done to B, too.
func (w *solving) cost() int {
	if w.first == 0 {
		return w.told.cost() + w.M.Rows
	}
	return w.told.cost()
}

func (w *solving) made(a api.Tape) ([]uint64, api.Tape, api.Errno) {
	if x, e := solve.Solve(w.P, w.M, w.B); e == api.OK {
		return headed(1, x), a, api.OK
	}
	y, _ := solve.Against(w.P, w.M, w.B)
	return headed(0, y), a, api.OK
}

// apart: what M is claimed to be taken apart into.
type apart struct {
	base
	api.Cup
}

func (w *apart) read(c []uint64) bool {
	var e api.Errno
	w.Cup, e = shape.Of(c, w.M.Rows, w.M.Cols)
	return e == api.OK && shape.Has(w.P, w.Cup, w.M.Rows, w.M.Cols)
}

func (w *apart) asked() int { return w.M.Cols }

func (w *apart) passes(ask, reply []uint64) bool {
	looks, _ := shape.Looks(w.P, w.M, w.Cup, ask)
	return looks && len(reply) == 0
}

func (w *apart) cost() int { return shape.Cost(w.Cup, w.M.Rows, w.M.Cols) }

func (w *apart) made(a api.Tape) ([]uint64, api.Tape, api.Errno) {
	c, _ := cup.Take(w.P, w.M)
	return shape.Numbers(c), a, api.OK
}

// rank, profile and det say other things of the same.
type rank struct{ apart }

func (w *rank) says() []uint64 { return []uint64{uint64(len(w.Rows))} }

type profile struct{ apart }

func (w *profile) says() []uint64 {
	var l []uint64
	for _, row := range w.Rows {
		l = append(l, uint64(row))
	}
	return l
}

type det struct{ apart }

func (w *det) says() []uint64 {
	number, _ := shape.Det(w.P, w.Cup, w.M.Rows)
	return []uint64{number}
}

// minimal: what is claimed of M's own polynomial.
type minimal struct {
	base
	api.Own
}

func (w *minimal) read(c []uint64) bool {
	var e api.Errno
	w.Own, e = own.Of(c, w.M.Rows)
	return e == api.OK && own.Has(w.P, w.Own, w.M.Rows)
}

func (w *minimal) says() []uint64 { return w.F }

// asked are a place and a vector.
func (w *minimal) asked() int { return 1 + w.M.Rows }

func (w *minimal) passes(ask, reply []uint64) bool {
	passes, _ := own.Passes(w.P, w.M, w.Own, ask[0], reply)
	dies, _ := own.Dies(w.P, w.M, w.Own, ask[1:])
	return passes && dies
}

func (w *minimal) reply(ask []uint64) ([]uint64, api.Errno) {
	return own.Answer(w.P, w.M, w.V, ask[0])
}

// cost: M is done to the reply, and to the vector for each of F's numbers; the place and U are done to the reply; F and H are asked for at the place.
func (w *minimal) cost() int {
	return (len(w.F)+1)*len(w.M.Cells) + 2*(w.M.Rows+len(w.F))
}

func (w *minimal) made(a api.Tape) ([]uint64, api.Tape, api.Errno) {
	n := w.M.Rows
	for range mostTries {
		vectors, behind, e := tape.Many(w.P, a, 2*n)
		if e != api.OK {
			return nil, behind, e
		}
		c, e := own.Make(w.P, w.M, vectors[:n], vectors[n:])
		if e == api.OK {
			return own.Numbers(c), behind, api.OK
		}
		a = behind
	}
	return nil, api.Tape{}, api.ErrNone
}

// headed by a first number: a vector.
func headed(first uint64, vector []uint64) []uint64 {
	return append([]uint64{first}, vector...)
}
