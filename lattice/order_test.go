package lattice

import (
	"slices"
	"testing"
)

// letters are two elements below two others, so that neither pair has a bound that is the least or the greatest; e is alone.
func letters() order[string] {
	return order[string]{
		elements: []string{"a", "b", "c", "d", "e"},
		steps:    []step[string]{{"a", "c"}, {"a", "d"}, {"b", "c"}, {"b", "d"}},
	}
}

func TestOrderWithoutLeastBound(t *testing.T) {
	o := letters()
	if x, ok := o.join("a", "b"); ok || x != "" {
		t.Errorf("a and b have the bounds c and d, and none that is the least: %q", x)
	}
	if x, ok := o.meet("c", "d"); ok || x != "" {
		t.Errorf("c and d have the bounds a and b, and none that is the greatest: %q", x)
	}
	if x, ok := o.join("a", "c"); !ok || x != "c" {
		t.Errorf("a and c: %q %v", x, ok)
	}
	if x, ok := o.meet("e", "e"); !ok || x != "e" {
		t.Errorf("e and e: %q %v", x, ok)
	}
	if l := o.above("b"); !slices.Equal(l, []string{"b", "c", "d"}) {
		t.Errorf("above b: %q", l)
	}
	if o.below("z", "z") || o.below("", "") || o.above("z") != nil {
		t.Error("z is no element")
	}
}

// TestOrderOfDivisors holds the bounds against numbers whose bounds are known: the least multiple, the greatest divisor.
func TestOrderOfDivisors(t *testing.T) {
	o := order[uint]{
		elements: []uint{12, 1, 6, 4, 2, 3},
		steps:    []step[uint]{{1, 2}, {1, 3}, {2, 4}, {2, 6}, {3, 6}, {4, 12}, {6, 12}},
	}
	for _, a := range o.elements {
		for _, b := range o.elements {
			if o.below(a, b) != (b%a == 0) {
				t.Errorf("below(%d, %d)", a, b)
			}
			gcd := a
			for b%gcd != 0 || a%gcd != 0 {
				gcd--
			}
			if x, ok := o.meet(a, b); !ok || x != gcd {
				t.Errorf("meet(%d, %d): %d %v", a, b, x, ok)
			}
			if x, ok := o.join(a, b); !ok || x != a*b/gcd {
				t.Errorf("join(%d, %d): %d %v", a, b, x, ok)
			}
		}
	}
}

func TestOrderTurned(t *testing.T) {
	o := letters()
	u := o.turned()
	for _, a := range o.elements {
		for _, b := range o.elements {
			if u.below(a, b) != o.below(b, a) || o.below(a, b) != letters().below(a, b) {
				t.Errorf("turned, %s and %s", a, b)
			}
		}
	}
}
