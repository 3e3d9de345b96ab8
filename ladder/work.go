package ladder

import (
	"iter"

	"aviary/api"
)

// work is a sketch at work: what it holds, its kind and its level. What is held is never written into, so it may be that of a sketch that was handed in.
type work struct {
	held
	kind, level int
}

// each goes through what it is handed, one by one.
func each[T any](l ...T) iter.Seq[T] {
	return func(yield func(T) bool) {
		for _, x := range l {
			if !yield(x) {
				return
			}
		}
	}
}

// none is a kind's sketch of no items, at a level.
func none(kind int, level int) (*work, error) {
	of, is := kinds()[kind]
	switch {
	case !is:
		return nil, fault{api.ErrKind}
	case level < 0 || level > Bottom(kind):
		return nil, fault{api.ErrBottom}
	}
	h, err := of(rung(level))
	return &work{h, kind, level}, err
}

// begin is x at work; what is wrong is that it is no sketch.
func begin(x api.Sketch) (*work, error) {
	w, err := none(x.Kind, x.Level)
	if err != nil {
		return nil, fault{api.ErrSketch}
	}
	h := content(x, w.held)
	if !h.like(w.held) {
		return nil, fault{api.ErrSketch}
	}
	w.held = h
	// What is told again is what is held alone, so that x is another one, if it has more.
	if !Same(w.done(), x) {
		return nil, fault{api.ErrSketch}
	}
	return w, nil
}

// content is what x has of the sort that an empty one is of.
func content(x api.Sketch, empty held) held {
	switch empty.(type) {
	case set:
		return set{x.E}
	case registers:
		return registers{x.H}
	case counters:
		return counters{x.C}
	default:
		return histogram{x.G}
	}
}

// done is the sketch, as it is by now.
func (w *work) done() api.Sketch {
	x := api.Sketch{Kind: w.kind, Level: w.level}
	switch h := w.held.(type) {
	case set:
		x.E = h.Exact
	case registers:
		x.H = h.Hll
	case counters:
		x.C = h.Cms
	case histogram:
		x.G = h.Hist
	}
	return x
}

// step lowers it by one level.
func (w *work) step() error {
	if w.level == Bottom(w.kind) {
		return fault{api.ErrBottom}
	}
	h, err := w.lowered()
	w.held, w.level = h, w.level+1
	return err
}

// sink lowers all as far as a level; those that are there already, or below it, stay.
func sink(level int, all ...*work) error {
	for w := range each(all...) {
	levels:
		for at := range down(w.level) {
			if at >= level {
				break levels
			}
			if err := w.step(); err != nil {
				return err
			}
		}
	}
	return nil
}

// take makes what of tells what is held; if that is too much for an exact set, it and the others are lowered first.
func (w *work) take(of func() (held, error), others ...*work) error {
	h, err := of()
	if isFull(err) {
		if err = sink(w.level+1, append(others, w)...); err != nil {
			return err
		}
		h, err = of()
	}
	w.held = h
	return err
}

// put adds items.
func (w *work) put(items ...api.Item) error {
	for i := range each(items...) {
		if err := w.take(func() (held, error) { return w.with(i) }); err != nil {
			return err
		}
	}
	return nil
}

// join merges it with another one of its kind, at the level of the lower one.
func (w *work) join(other *work) error {
	if err := sink(max(w.level, other.level), w, other); err != nil {
		return err
	}
	return w.take(func() (held, error) { return w.and(other.held) }, other)
}

// add is x with items.
func add(x api.Sketch, items ...api.Item) (*work, error) {
	w, err := begin(x)
	if err != nil {
		return nil, err
	}
	return w, w.put(items...)
}

// merge is x and y, merged.
func merge(x, y api.Sketch) (*work, error) {
	w, err := begin(x)
	if err != nil {
		return nil, err
	}
	other, err := begin(y)
	if err != nil {
		return nil, err
	}
	if w.kind != other.kind {
		return nil, fault{api.ErrKind}
	}
	return w, w.join(other)
}

// lower is x at the next level.
func lower(x api.Sketch) (*work, error) {
	w, err := begin(x)
	if err != nil {
		return nil, err
	}
	return w, w.step()
}

// to is x, lowered as far as a level.
func to(x api.Sketch, level int) (*work, error) {
	w, err := begin(x)
	if err != nil {
		return nil, err
	}
	if err = sink(level, w); err != nil {
		return nil, err
	}
	nothing, err := none(w.kind, w.level)
	if err != nil {
		return nil, err
	}
	// What is not lowered is x's own memory still; merged with nothing it is the same, in other memory.
	return w, w.join(nothing)
}
