package ladder

import (
	"aviary/api"
	"aviary/cms"
	"aviary/exact"
	"aviary/hist"
	"aviary/hll"
)

// held is what a sketch holds. Those that are handed to one another are of one kind, at one level.
type held interface {
	// like tells whether it is right, and as an empty one is at its level.
	like(empty held) bool
	with(i api.Item) (held, error)
	and(other held) (held, error)
	lowered() (held, error)
	cost() int
	ask(h uint64) uint64
}

// set is what holds distinct numbers, as long as they are few.
type set struct {
	api.Exact
}

func (s set) like(held) bool { return exact.Right(s.Exact) }

func (s set) with(i api.Item) (held, error) {
	x, e := exact.Add(s.Exact, i.H)
	return set{x}, wrong(e)
}

func (s set) and(other held) (held, error) {
	x, e := exact.Merge(s.Exact, other.(set).Exact)
	return set{x}, wrong(e)
}

func (s set) lowered() (held, error) {
	x, e := hll.Of(bitsAt(1), s.L)
	return registers{x}, wrong(e)
}

func (s set) cost() int { return 8 * len(s.L) }

func (s set) ask(uint64) uint64 { return exact.Count(s.Exact) }

// registers is what holds distinct numbers, when they are many.
type registers struct {
	api.Hll
}

func (r registers) like(empty held) bool {
	return hll.Right(r.Hll) && r.Bits == empty.(registers).Bits
}

func (r registers) with(i api.Item) (held, error) {
	x, e := hll.Add(r.Hll, i.H)
	return registers{x}, wrong(e)
}

func (r registers) and(other held) (held, error) {
	x, e := hll.Merge(r.Hll, other.(registers).Hll)
	return registers{x}, wrong(e)
}

func (r registers) lowered() (held, error) {
	x, e := hll.Lower(r.Hll)
	return registers{x}, wrong(e)
}

func (r registers) cost() int { return len(r.Regs) }

func (r registers) ask(uint64) uint64 { return hll.Count(r.Hll) }

// counters is what holds how often numbers came.
type counters struct {
	api.Cms
}

func (c counters) like(empty held) bool {
	size := empty.(counters)
	return cms.Right(c.Cms) && c.Rows == size.Rows && c.Cols == size.Cols
}

func (c counters) with(i api.Item) (held, error) {
	x, e := cms.Add(c.Cms, i.H, i.N)
	return counters{x}, wrong(e)
}

func (c counters) and(other held) (held, error) {
	x, e := cms.Merge(c.Cms, other.(counters).Cms)
	return counters{x}, wrong(e)
}

func (c counters) lowered() (held, error) {
	x, e := cms.Lower(c.Cms)
	return counters{x}, wrong(e)
}

func (c counters) cost() int { return 8 * len(c.L) }

func (c counters) ask(h uint64) uint64 { return cms.Count(c.Cms, h) }

// histogram is what holds how values lie.
type histogram struct {
	api.Hist
}

func (g histogram) like(empty held) bool {
	return hist.Right(g.Hist) && g.Fine == empty.(histogram).Fine
}

func (g histogram) with(i api.Item) (held, error) {
	x, e := hist.Add(g.Hist, i.H, i.N)
	return histogram{x}, wrong(e)
}

func (g histogram) and(other held) (held, error) {
	x, e := hist.Merge(g.Hist, other.(histogram).Hist)
	return histogram{x}, wrong(e)
}

func (g histogram) lowered() (held, error) {
	x, e := hist.Lower(g.Hist)
	return histogram{x}, wrong(e)
}

func (g histogram) cost() int { return 16 * len(g.L) }

func (g histogram) ask(h uint64) uint64 { return hist.Rank(g.Hist, h) }
