package lattice

import "slices"

// order is a partial order of elements: below is the least relation that holds of each element and itself, holds of each step, and is transitive. Steps go round in no circle.
type order[E comparable] struct {
	elements []E // as answers list them
	steps    []step[E]
}

type step[E comparable] struct{ low, high E }

func (o order[E]) below(a, b E) bool {
	if a == b {
		return slices.Contains(o.elements, a)
	}
	for _, s := range o.steps {
		if s.low == a && o.below(s.high, b) {
			return true
		}
	}
	return false
}

func (o order[E]) above(e E) []E {
	var l []E
	for _, x := range o.elements {
		if o.below(e, x) {
			l = append(l, x)
		}
	}
	return l
}

func (o order[E]) join(a, b E) (E, bool) {
	for _, x := range o.elements {
		if o.isJoin(x, a, b) {
			return x, true
		}
	}
	var none E
	return none, false
}

func (o order[E]) isJoin(x, a, b E) bool {
	if !o.below(a, x) || !o.below(b, x) {
		return false
	}
	for _, y := range o.above(a) {
		if o.below(b, y) && !o.below(x, y) {
			return false
		}
	}
	return true
}

// meet is a join of the order upside down, so that the two cannot come apart.
func (o order[E]) meet(a, b E) (E, bool) { return o.turned().join(a, b) }

func (o order[E]) turned() order[E] {
	t := order[E]{elements: o.elements}
	for _, s := range o.steps {
		t.steps = append(t.steps, step[E]{low: s.high, high: s.low})
	}
	return t
}
