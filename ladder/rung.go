package ladder

import (
	"iter"

	"aviary/api"
	"aviary/cms"
	"aviary/hll"
)

// rung is a level, that sketches of a kind may be at; what they hold there, when they are empty, its methods tell.
type rung int

// kinds are all kinds, by what is empty of each one.
func kinds() map[int]func(rung) (held, error) {
	return map[int]func(rung) (held, error){
		api.KindDistinct: rung.distinct,
		api.KindCount:    rung.count,
		api.KindHist:     rung.hist,
	}
}

func (r rung) distinct() (held, error) {
	if r == 0 {
		return set{}, nil
	}
	x, e := hll.New(bitsAt(r))
	return registers{x}, wrong(e)
}

func (r rung) count() (held, error) {
	x, e := cms.New(api.CountRows, api.MaxCols>>r)
	return counters{x}, wrong(e)
}

func (r rung) hist() (held, error) {
	return histogram{api.Hist{Fine: api.MaxFine - int(r)}}, nil
}

// bitsAt is how many digits tell registers apart, at a rung below the uppermost one.
func bitsAt(r rung) int {
	return api.MaxBits - int(r)
}

// down goes through levels, from one on. It ends only when it is left.
func down(from int) iter.Seq[int] {
	return func(yield func(int) bool) {
		for level := from; yield(level); level++ {
		}
	}
}
