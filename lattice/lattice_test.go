package lattice

import (
	"math"
	"slices"
	"strings"
	"testing"

	"moult/api"
	"moult/value"
)

func of(kind, n int, s string) api.Value { return api.Value{Kind: kind, N: n, S: s} }

var allKinds = []int{api.Bool, api.Int16, api.Int32, api.Int64, api.Word, api.Text}

var noKinds = []int{math.MinInt, -6, -1, 0, 7, 8, 9, 1 << 8, 1<<8 + 1, 1<<16 + 1, 1<<32 + 1, math.MaxInt}

func everyInt() []int { return append(slices.Clone(allKinds), noKinds...) }

// wider is the relation as the document writes it: for each kind, those that it is below.
var wider = map[int][]int{
	api.Bool:  {api.Bool, api.Int16, api.Int32, api.Int64},
	api.Int16: {api.Int16, api.Int32, api.Int64},
	api.Int32: {api.Int32, api.Int64},
	api.Int64: {api.Int64},
	api.Word:  {api.Word, api.Text},
	api.Text:  {api.Text},
}

func isBelow(a, b int) bool { return slices.Contains(wider[a], b) }

func TestL1Below(t *testing.T) {
	for _, a := range everyInt() {
		for _, b := range everyInt() {
			if got := Below(a, b); got != isBelow(a, b) {
				t.Errorf("Below(%d, %d): %v", a, b, got)
			}
		}
	}
	if !Below(api.Bool, api.Int64) || Below(api.Int32, api.Int16) || Below(api.Word, api.Int64) {
		t.Error("the document's examples")
	}
}

func TestL1Above(t *testing.T) {
	for _, k := range everyInt() {
		if l := Above(k); !slices.Equal(l, wider[k]) || !slices.IsSorted(l) {
			t.Errorf("Above(%d): %v, not %v", k, l, wider[k])
		}
	}
}

func TestP3AboveIsNew(t *testing.T) {
	l := Above(api.Bool)
	again := Above(api.Bool)
	clear(l[:cap(l)])
	if !slices.Equal(again, wider[api.Bool]) || !slices.Equal(Above(api.Bool), wider[api.Bool]) || !Below(api.Bool, api.Int64) {
		t.Error("a list that was answered is shared")
	}
}

func TestL1JoinMeet(t *testing.T) {
	for _, c := range []struct{ a, b, join, meet int }{
		{api.Int16, api.Int64, api.Int64, api.Int16},
		{api.Int64, api.Int16, api.Int64, api.Int16},
		{api.Bool, api.Int64, api.Int64, api.Bool},
		{api.Bool, api.Int16, api.Int16, api.Bool},
		{api.Int32, api.Int16, api.Int32, api.Int16},
		{api.Word, api.Text, api.Text, api.Word},
		{api.Text, api.Word, api.Text, api.Word},
		{api.Bool, api.Bool, api.Bool, api.Bool},
		{api.Int64, api.Int64, api.Int64, api.Int64},
		{api.Text, api.Text, api.Text, api.Text},
		{api.Bool, api.Word, 0, 0},
		{api.Text, api.Int64, 0, 0},
		{api.Bool, api.Text, 0, 0},
		{0, 0, 0, 0},
		{7, 7, 0, 0},
		{api.Bool, 0, 0, 0},
		{7, api.Text, 0, 0},
		{math.MinInt, math.MaxInt, 0, 0},
	} {
		j, some := Join(c.a, c.b)
		m, too := Meet(c.a, c.b)
		if j != c.join || m != c.meet || some != (c.join > 0) || too != (c.meet > 0) {
			t.Errorf("%d and %d: join %d %v, meet %d %v", c.a, c.b, j, some, m, too)
		}
	}
}

// least searches a bound of two by the words of the document.
func least(a, b int, below func(a, b int) bool) (int, bool) {
	for _, x := range allKinds {
		is := below(a, x) && below(b, x)
		for _, y := range allKinds {
			is = is && (!below(a, y) || !below(b, y) || below(x, y))
		}
		if is {
			return x, true
		}
	}
	return 0, false
}

func TestL1BoundsOfAll(t *testing.T) {
	for _, a := range everyInt() {
		for _, b := range everyInt() {
			want, is := least(a, b, isBelow)
			if k, ok := Join(a, b); k != want || ok != is {
				t.Errorf("Join(%d, %d): %d %v, not %d %v", a, b, k, ok, want, is)
			}
			want, is = least(a, b, func(a, b int) bool { return isBelow(b, a) })
			if k, ok := Meet(a, b); k != want || ok != is {
				t.Errorf("Meet(%d, %d): %d %v, not %d %v", a, b, k, ok, want, is)
			}
		}
	}
}

// right are valid values, at the edges of their kinds and of the kinds below them.
func right() []api.Value {
	l := []api.Value{of(api.Bool, 0, ""), of(api.Bool, 1, "")}
	for _, n := range []int{
		0, 1, -1, 2, 7, math.MinInt16, math.MaxInt16, math.MinInt16 - 1, math.MaxInt16 + 1, 70000, 1 << 16, 1<<16 + 1,
		math.MinInt32, math.MaxInt32, math.MinInt32 - 1, math.MaxInt32 + 1, 1 << 32, 1<<32 + 1, math.MinInt, math.MaxInt,
	} {
		for _, k := range []int{api.Int16, api.Int32, api.Int64} {
			l = append(l, of(k, n, ""))
		}
	}
	for _, s := range []string{"", "a", "ab", "b", "\x00", "\xff", "é", strings.Repeat("w", 32), strings.Repeat("w", 33), strings.Repeat("\x00", 1000)} {
		l = append(l, of(api.Word, 0, s), of(api.Text, 0, s))
	}
	return slices.DeleteFunc(l, func(v api.Value) bool { return !value.Right(v) })
}

var wrong = []api.Value{
	{}, of(7, 0, ""), of(-1, 0, ""), of(math.MinInt, 1, "x"),
	of(api.Bool, 2, ""), of(api.Bool, -1, ""), of(api.Bool, 0, "x"),
	of(api.Int16, 32768, ""), of(api.Int16, -32769, ""), of(api.Int16, 1, "x"),
	of(api.Int32, 1<<31, ""), of(api.Int32, -1<<31-1, ""), of(api.Int32, 1, "x"), of(api.Int64, 1, "x"),
	of(api.Word, 1, ""), of(api.Word, 0, strings.Repeat("w", 33)),
	of(api.Text, 1, ""), of(api.Text, 0, strings.Repeat("t", 1001)), of(api.Text, 0, strings.Repeat("t", 1<<20)),
}

type change func(api.Value, int) (api.Value, api.Errno)

func ask(t *testing.T, name string, f change, v api.Value, kind int, want api.Errno) {
	t.Helper()
	w := api.Value{}
	if want == api.OK {
		w = of(kind, v.N, v.S)
	}
	if got, e := f(v, kind); got != w || e != want {
		t.Errorf("%s(%v, %d): %v %v, not %v %v", name, v, kind, got, e, w, want)
	}
}

func TestL2Widen(t *testing.T) {
	ask(t, "Widen", Widen, of(api.Int16, 7, ""), api.Int64, api.OK)
	for _, v := range right() {
		for _, k := range allKinds {
			want := api.ErrKind
			if isBelow(v.Kind, k) {
				want = api.OK
			}
			ask(t, "Widen", Widen, v, k, want)
		}
	}
}

func TestL3Narrow(t *testing.T) {
	for _, c := range []struct {
		v    api.Value
		kind int
		want api.Errno
	}{
		{of(api.Int64, 70000, ""), api.Int16, api.ErrRange},
		{of(api.Int64, 7, ""), api.Bool, api.ErrRange},
		{of(api.Int64, -1, ""), api.Bool, api.ErrRange},
		{of(api.Int64, 2, ""), api.Bool, api.ErrRange},
		{of(api.Int64, 1, ""), api.Bool, api.OK},
		{of(api.Int16, 0, ""), api.Bool, api.OK},
		{of(api.Int32, 32767, ""), api.Int16, api.OK},
		{of(api.Int32, 32768, ""), api.Int16, api.ErrRange},
		{of(api.Int32, -32768, ""), api.Int16, api.OK},
		{of(api.Int32, -32769, ""), api.Int16, api.ErrRange},
		{of(api.Int64, 1<<31-1, ""), api.Int32, api.OK},
		{of(api.Int64, 1<<31, ""), api.Int32, api.ErrRange},
		{of(api.Int64, -1<<31, ""), api.Int32, api.OK},
		{of(api.Int64, -1<<31-1, ""), api.Int32, api.ErrRange},
		{of(api.Int64, 1<<32+1, ""), api.Bool, api.ErrRange},
		{of(api.Int64, math.MinInt, ""), api.Int64, api.OK},
		{of(api.Text, 0, strings.Repeat("w", 32)), api.Word, api.OK},
		{of(api.Text, 0, strings.Repeat("w", 33)), api.Word, api.ErrRange},
		{of(api.Text, 0, strings.Repeat("w", 33)), api.Text, api.OK},
		{of(api.Word, 0, "a"), api.Word, api.OK},
		{of(api.Word, 0, "a"), api.Text, api.ErrKind},
		{of(api.Text, 0, ""), api.Int64, api.ErrKind},
		{of(api.Int16, 1, ""), api.Int32, api.ErrKind},
		{of(api.Bool, 1, ""), api.Word, api.ErrKind},
	} {
		ask(t, "Narrow", Narrow, c.v, c.kind, c.want)
	}
}

func TestL3NarrowAll(t *testing.T) {
	for _, v := range right() {
		for _, k := range allKinds {
			want := api.ErrKind
			if isBelow(k, v.Kind) {
				want = api.OK
				if !value.Right(of(k, v.N, v.S)) {
					want = api.ErrRange
				}
			}
			ask(t, "Narrow", Narrow, v, k, want)
		}
	}
}

// TestP2ArgumentsFirst: a value that is not valid and a kind that is none are told ahead of everything else.
func TestP2ArgumentsFirst(t *testing.T) {
	for _, v := range wrong {
		for _, k := range everyInt() {
			ask(t, "Widen", Widen, v, k, api.ErrArg)
			ask(t, "Narrow", Narrow, v, k, api.ErrArg)
		}
	}
	for _, v := range right() {
		for _, k := range noKinds {
			ask(t, "Widen", Widen, v, k, api.ErrArg)
			ask(t, "Narrow", Narrow, v, k, api.ErrArg)
		}
	}
}

func TestL4PartialOrder(t *testing.T) {
	for _, a := range everyInt() {
		if Below(a, a) != slices.Contains(allKinds, a) {
			t.Errorf("Below(%d, %d)", a, a)
		}
		for _, b := range everyInt() {
			if a != b && Below(a, b) && Below(b, a) {
				t.Errorf("%d and %d are each below the other", a, b)
			}
			for _, c := range everyInt() {
				if Below(a, b) && Below(b, c) && !Below(a, c) {
					t.Errorf("%d, %d, %d: not transitive", a, b, c)
				}
			}
		}
	}
}

func TestL4WidenInSteps(t *testing.T) {
	for _, v := range right() {
		for _, k := range Above(v.Kind) {
			one, e := Widen(v, k)
			if e != api.OK || !value.Right(one) {
				t.Errorf("Widen(%v, %d): %v %v", v, k, one, e)
			}
			if back, e := Narrow(one, v.Kind); back != v || e != api.OK {
				t.Errorf("Narrow(%v, %d): %v %v", one, v.Kind, back, e)
			}
			for _, h := range Above(k) {
				direct, _ := Widen(v, h)
				if two, e := Widen(one, h); two != direct || e != api.OK {
					t.Errorf("%v to %d to %d: %v %v, not %v", v, k, h, two, e, direct)
				}
			}
		}
	}
}

func TestL4WidenKeepsOrder(t *testing.T) {
	for _, v := range right() {
		for _, w := range right() {
			for _, k := range Above(v.Kind) {
				a, e := Widen(v, k)
				b, f := Widen(w, k)
				if v.Kind == w.Kind && (e != api.OK || f != api.OK || value.Compare(a, b) != value.Compare(v, w)) {
					t.Errorf("%v and %v do not keep their order in kind %d", v, w, k)
				}
			}
		}
	}
}
