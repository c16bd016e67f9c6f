package memory

import (
	"math/bits"
	"math/rand"
	"slices"
	"testing"
)

// number is an element that has something beside what it is compared by.
type number struct{ n, beside int }

func (a number) less(b number) bool { return a.n < b.n }

// depth is the number of nodes on the longest way down; it tells of levels that are not as they must be.
func depth(t *testing.T, n *node[number]) int {
	t.Helper()
	if n == nil {
		return 0
	}
	left, right := levelOf(n.left), levelOf(n.right)
	if left != n.level-1 || right != n.level && right != n.level-1 {
		t.Fatalf("level %d, on the left %d, on the right %d", n.level, left, right)
	}
	if n.right != nil && levelOf(n.right.right) == n.level {
		t.Fatalf("three in a row of level %d", n.level)
	}
	return 1 + max(depth(t, n.left), depth(t, n.right))
}

func levelOf(n *node[number]) int {
	if n == nil {
		return 0
	}
	return n.level
}

// someOrders are the numbers from 0 on, in order, against it, from both ends, and in some other orders.
func someOrders(n int) [][]int {
	up := make([]int, n)
	for i := range up {
		up[i] = i
	}
	down, ends := slices.Clone(up), slices.Clone(up)
	slices.Reverse(down)
	for i := range ends {
		ends[i] = i / 2
		if i%2 == 1 {
			ends[i] = n - 1 - i/2
		}
	}
	orders := [][]int{up, down, ends}
	for seed := range 10 {
		orders = append(orders, rand.New(rand.NewSource(int64(seed))).Perm(n))
	}
	return orders
}

func TestTreeIsShallow(t *testing.T) {
	for _, order := range someOrders(300) {
		var x tree[number]
		for i, n := range order {
			x.put(number{n: n})
			if d := depth(t, x.root); d > 2*bits.Len(uint(i+1)) {
				t.Fatalf("%d elements: %d nodes deep", i+1, d)
			}
		}
	}
}

func TestTreeIsInOrder(t *testing.T) {
	for _, size := range []int{0, 1, 2, 3, 4, 7, 8, 9, 100} {
		for _, order := range someOrders(size) {
			var x tree[number]
			for _, n := range order {
				x.put(number{n: 2 * n})
			}
			for least := -1; least <= 2*size; least++ {
				want := max(0, (least+1)/2)
				first, ok := x.first(number{n: least})
				if ok != (want < size) || ok && first.n != 2*want || !ok && first != (number{}) {
					t.Fatalf("first of %d from %d on: %v, %v", size, least, first, ok)
				}
				for e := range x.from(number{n: least}) {
					if e.n != 2*want {
						t.Fatalf("from %d on: %d, not %d", least, e.n, 2*want)
					}
					want++
				}
				if want != size {
					t.Fatalf("from %d on: %d of %d", least, want, size)
				}
			}
		}
	}
}

// TestTreeKeepsTheFirst: of two that are alike the first one is kept, and is changed where it is said to be.
func TestTreeKeepsTheFirst(t *testing.T) {
	for _, order := range someOrders(50) {
		var x tree[number]
		var places []*number
		for i, n := range order {
			p, fresh := x.put(number{n, n})
			if !fresh || *p != (number{n, n}) || x.count != i+1 {
				t.Fatalf("put of %d: %v, %v, %d", n, *p, fresh, x.count)
			}
			places = append(places, p)
		}
		for i, n := range order {
			p, fresh := x.put(number{n, -1})
			if fresh || p != places[i] || *p != (number{n, n}) || x.count != len(order) {
				t.Fatalf("put of another %d: %v, %v, %d", n, *p, fresh, x.count)
			}
			p.beside = 100 + n
		}
		n := 0
		for e := range x.from(number{}) {
			if e != (number{n, 100 + n}) {
				t.Fatalf("element %d: %v", n, e)
			}
			n++
		}
	}
}

func TestTreeStopsWhenNoMoreIsWanted(t *testing.T) {
	var x tree[number]
	for n := range 100 {
		x.put(number{n: n})
	}
	for least := range 100 {
		for wanted := 1; wanted <= 100-least; wanted++ {
			got := 0
			for e := range x.from(number{n: least}) {
				if e.n != least+got {
					t.Fatalf("from %d on: %d behind %d", least, e.n, got)
				}
				if got++; got == wanted {
					break
				}
			}
			if got != wanted {
				t.Fatalf("from %d on: %d, not %d", least, got, wanted)
			}
		}
	}
}
