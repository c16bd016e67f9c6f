package varint

import (
	"math"
	"slices"
	"strings"
	"testing"
)

// written is what R1 says of a number, word by word.
func written(n uint64) string {
	switch {
	case n <= 240:
		return string([]byte{byte(n)})
	case n <= 2287:
		return string([]byte{byte(241 + (n-240)/256), byte((n - 240) % 256)})
	case n <= 67823:
		return string([]byte{249, byte((n - 2288) / 256), byte((n - 2288) % 256)})
	}
	b := []byte{}
	for rest := n; rest > 0; rest /= 256 {
		b = append([]byte{byte(rest % 256)}, b...)
	}
	return string(append([]byte{byte(247 + len(b))}, b...))
}

// samples are all numbers of one to three bytes and some beyond, and those about each border, in their order.
func samples() []uint64 {
	var l []uint64
	for n := range uint64(70000) {
		l = append(l, n)
	}
	for bit := 17; bit < 64; bit++ {
		p := uint64(1) << bit
		l = append(l, p-2, p-1, p, p+1, p+0x55, p+p/3)
	}
	l = append(l, 0x0102030405060708, 0xfffefdfcfbfaf9f8, math.MaxUint64-1, math.MaxUint64)
	slices.Sort(l)
	return slices.Compact(l)
}

func TestR1Put(t *testing.T) {
	for _, c := range []struct {
		n uint64
		s string
	}{
		{0, "\x00"},
		{7, "\x07"},
		{240, "\xf0"},
		{241, "\xf1\x01"},
		{495, "\xf1\xff"},
		{496, "\xf2\x00"},
		{2287, "\xf8\xff"},
		{2288, "\xf9\x00\x00"},
		{2543, "\xf9\x00\xff"},
		{2544, "\xf9\x01\x00"},
		{67823, "\xf9\xff\xff"},
		{67824, "\xfa\x01\x08\xf0"},
		{1<<24 - 1, "\xfa\xff\xff\xff"},
		{1 << 24, "\xfb\x01\x00\x00\x00"},
		{1<<32 - 1, "\xfb\xff\xff\xff\xff"},
		{1 << 32, "\xfc\x01\x00\x00\x00\x00"},
		{1<<40 - 1, "\xfc\xff\xff\xff\xff\xff"},
		{1 << 40, "\xfd\x01\x00\x00\x00\x00\x00"},
		{1<<48 - 1, "\xfd\xff\xff\xff\xff\xff\xff"},
		{1 << 48, "\xfe\x01\x00\x00\x00\x00\x00\x00"},
		{1<<56 - 1, "\xfe\xff\xff\xff\xff\xff\xff\xff"},
		{1 << 56, "\xff\x01\x00\x00\x00\x00\x00\x00\x00"},
		{0x0102030405060708, "\xff\x01\x02\x03\x04\x05\x06\x07\x08"},
		{math.MaxUint64, "\xff\xff\xff\xff\xff\xff\xff\xff\xff"},
	} {
		if s := Put(c.n); s != c.s {
			t.Errorf("Put(%d): %q, not %q", c.n, s, c.s)
		}
	}
}

func TestR1PutOfAll(t *testing.T) {
	for _, n := range samples() {
		if s := Put(n); s != written(n) {
			t.Errorf("Put(%d): %q, not %q", n, s, written(n))
		}
	}
}

func TestR1Size(t *testing.T) {
	for _, n := range samples() {
		if size := Size(n); size != len(written(n)) {
			t.Errorf("Size(%d): %d, not %d", n, size, len(written(n)))
		}
	}
	for i, n := range []uint64{0, 241, 2288, 67824, 1 << 24, 1 << 32, 1 << 40, 1 << 48, 1 << 56} {
		if Size(n) != i+1 || n > 0 && Size(n-1) != i {
			t.Errorf("Size(%d): %d, and of one less %d", n, Size(n), Size(n-1))
		}
	}
}

func take(t *testing.T, s string, n uint64, rest string, ok bool) {
	t.Helper()
	if gotN, gotRest, gotOK := Take(s); gotN != n || gotRest != rest || gotOK != ok {
		t.Errorf("Take(%q): %d %q %v, not %d %q %v", s, gotN, gotRest, gotOK, n, rest, ok)
	}
}

func TestR2Take(t *testing.T) {
	take(t, "\xf1\x01\x09", 241, "\x09", true)
	for _, n := range samples() {
		s := written(n)
		for _, rest := range []string{"", "\x00", "\xff", "rest", s, s + s} {
			take(t, s+rest, n, rest, true)
		}
	}
}

func TestR2TakeOfNone(t *testing.T) {
	take(t, "", 0, "", false)
	for _, s := range []string{
		"\xf1\x00",
		"\xfa\x00\x00\x01", "\xfa\x00\x00\x00", "\xfa\x01\x08\xef", "\xfa\x00\xff\xff",
		"\xfb\x00\xff\xff\xff", "\xfb\x00\x00\x00\x00", "\xfb\x00\x01\x08\xf0",
		"\xfc\x00\xff\xff\xff\xff", "\xfd\x00\xff\xff\xff\xff\xff", "\xfe\x00\xff\xff\xff\xff\xff\xff",
		"\xff\x00\xff\xff\xff\xff\xff\xff\xff", "\xff\x00\x00\x00\x00\x00\x00\x00\x00", "\xff\x00\x00\x00\x00\x00\x00\x00\x01",
	} {
		take(t, s, 0, "", false)
		take(t, s+"\x00", 0, "", false)
		take(t, s+"\xff\xff\xff\xff\xff\xff\xff\xff", 0, "", false)
	}
}

func TestR2TakeOfTooFew(t *testing.T) {
	for _, n := range samples() {
		s := written(n)
		for i := range len(s) {
			take(t, s[:i], 0, "", false)
		}
	}
	for first := 241; first <= 255; first++ {
		take(t, string([]byte{byte(first)}), 0, "", false)
	}
}

// TestR2TakeOfAny asks about every string of two bytes, behind which there is enough of zeros and of great bytes.
func TestR2TakeOfAny(t *testing.T) {
	for first := range 256 {
		for second := range 256 {
			for _, tail := range []string{"", "\x00\x00\x00\x00\x00\x00\x00", "\xff\xff\xff\xff\xff\xff\xff", "\x08\xf0\x01\x01\x01\x01\x01\x01\x01"} {
				s := string([]byte{byte(first), byte(second)}) + tail
				n, rest, ok := Take(s)
				if ok && written(n)+rest != s || !ok && (n != 0 || rest != "") {
					t.Fatalf("Take(%q): %d %q %v", s, n, rest, ok)
				}
				// The least that begins so is taken, and a second byte of 0 alone makes more than three bytes too long.
				long := len(tail) > 0 && first >= 250 && (second > 1 || second == 1 && (first > 250 || s[2:4] >= "\x08\xf0"))
				if want := first <= 240 || first <= 248 && (first > 241 || second > 0) || first == 249 && tail != "" || long; ok != want {
					t.Fatalf("Take(%q): %v", s, ok)
				}
			}
		}
	}
}

var folds = []struct {
	n int
	u uint64
}{
	{0, 0}, {-1, 1}, {1, 2}, {-2, 3}, {2, 4}, {3, 6}, {-121, 241}, {120, 240},
	{1<<31 - 1, 1<<32 - 2}, {-1 << 31, 1<<32 - 1}, {1 << 31, 1 << 32}, {-1<<31 - 1, 1<<32 + 1},
	{1 << 62, 1 << 63}, {1<<62 - 1, 1<<63 - 2}, {-1 << 62, 1<<63 - 1}, {-1<<62 - 1, 1<<63 + 1},
	{math.MaxInt - 1, math.MaxUint64 - 3}, {math.MaxInt, math.MaxUint64 - 1}, {math.MinInt + 1, math.MaxUint64 - 2}, {math.MinInt, math.MaxUint64},
}

func TestR3Fold(t *testing.T) {
	for _, c := range folds {
		if u := Fold(c.n); u != c.u {
			t.Errorf("Fold(%d): %d, not %d", c.n, u, c.u)
		}
	}
	for n := range 100000 {
		if Fold(n) != uint64(2*n) || n > 0 && Fold(-n) != uint64(2*n-1) {
			t.Fatalf("Fold(%d): %d; Fold(%d): %d", n, Fold(n), -n, Fold(-n))
		}
	}
}

func TestR3Unfold(t *testing.T) {
	for _, c := range folds {
		if n := Unfold(c.u); n != c.n {
			t.Errorf("Unfold(%d): %d, not %d", c.u, n, c.n)
		}
	}
	for _, u := range samples() {
		if n := Unfold(u); Fold(n) != u || (n < 0) != (u%2 == 1) {
			t.Fatalf("Unfold(%d): %d", u, n)
		}
	}
}

func TestR3Ints(t *testing.T) {
	if s := Ints(); s != "" {
		t.Errorf("Ints(): %q", s)
	}
	if s := Ints(0, -1, 5, -300, 120, -121, math.MinInt); s != "\x00\x01\x0a\xf2\x67\xf0\xf1\x01\xff\xff\xff\xff\xff\xff\xff\xff\xff" {
		t.Errorf("Ints: %q", s)
	}
	var all []int
	want := ""
	for _, c := range folds {
		all = append(all, c.n)
		want += written(c.u)
	}
	if s := Ints(all...); s != want {
		t.Errorf("Ints(%v): %q, not %q", all, s, want)
	}
}

func TestR3IntsOfMany(t *testing.T) {
	if s := Ints(make([]int, 5000)...); s != strings.Repeat("\x00", 5000) {
		t.Errorf("%d bytes of 5000 zeros", len(s))
	}
}

func toInts(t *testing.T, s string, many int, want []int, rest string, ok bool) {
	t.Helper()
	if l, gotRest, gotOK := ToInts(s, many); !slices.Equal(l, want) || gotRest != rest || gotOK != ok {
		t.Errorf("ToInts(%q, %d): %v %q %v, not %v %q %v", s, many, l, gotRest, gotOK, want, rest, ok)
	}
}

func TestR3ToInts(t *testing.T) {
	l := []int{0, -1, 5, -300, math.MaxInt, math.MinInt, 120, -121}
	s := Ints(l...)
	for many := range len(l) + 1 {
		rest := Ints(l[many:]...)
		toInts(t, s, many, l[:many], rest, true)
		toInts(t, s+"z", many, l[:many], rest+"z", true)
	}
	toInts(t, "", 0, nil, "", true)
	toInts(t, "\xff", 0, nil, "\xff", true)
	toInts(t, "\x02\xf1", 1, []int{1}, "\xf1", true)
}

func TestR3ToIntsOfTooFew(t *testing.T) {
	s := Ints(0, -1, 5, -300)
	toInts(t, s, 5, nil, "", false)
	toInts(t, s[:len(s)-1], 4, nil, "", false)
	toInts(t, s[:len(s)-1]+"\xff", 5, nil, "", false)
	toInts(t, "", 1, nil, "", false)
	toInts(t, "\x01\xf1\x00\x01", 2, nil, "", false)
	toInts(t, "\x01\xf1\x00\x01", 1, []int{-1}, "\xf1\x00\x01", true)
	toInts(t, "\xfa\x00\x00\x01", 1, nil, "", false)
}

func TestR3ToIntsOfMany(t *testing.T) {
	s := strings.Repeat("\x02", 2000)
	ones := slices.Repeat([]int{1}, 1000)
	toInts(t, s, 999, ones[:999], s[999:], true)
	toInts(t, s, 1000, ones, s[1000:], true)
	toInts(t, s[:1000], 1000, ones, "", true)
	toInts(t, s[:999], 1000, nil, "", false)
	for _, many := range []int{-1, -2, 1001, 2000, 1 << 32, 1<<32 + 1, math.MinInt, math.MinInt + 1, math.MaxInt} {
		toInts(t, s, many, nil, "", false)
		toInts(t, "", many, nil, "", false)
	}
}

func TestP3IntsLeavesItsList(t *testing.T) {
	l := []int{1, -2, 3, 7, 7}
	if s := Ints(l[:3]...); s != "\x02\x03\x06" || !slices.Equal(l, []int{1, -2, 3, 7, 7}) {
		t.Errorf("%q, and the list is %v", s, l)
	}
}

func TestP3ToIntsIsNew(t *testing.T) {
	s := Ints(1, 2, 3)
	l, _, _ := ToInts(s, 3)
	again, _, _ := ToInts(s, 3)
	clear(l[:cap(l)])
	if !slices.Equal(again, []int{1, 2, 3}) {
		t.Error("a list that was answered is shared")
	}
	toInts(t, s, 3, []int{1, 2, 3}, "", true)
}

func TestR4Order(t *testing.T) {
	l := samples()
	for i, n := range l[1:] {
		low, high := Put(l[i]), Put(n)
		if low >= high || len(low) > len(high) || strings.HasPrefix(high, low) {
			t.Fatalf("%d and %d: %q and %q", l[i], n, low, high)
		}
	}
}

// TestR4OrderOfPairs holds numbers far from each other against each other, since a prefix need not be a neighbour.
func TestR4OrderOfPairs(t *testing.T) {
	var l []uint64
	for _, n := range samples() {
		if n < 300 || n%997 == 0 || n > 67000 && n < 68000 || n > 1<<17 {
			l = append(l, n)
		}
	}
	puts := make([]string, len(l))
	for i, n := range l {
		puts[i] = Put(n)
	}
	for i, low := range puts {
		for j := i + 1; j < len(l); j++ {
			if high := puts[j]; low >= high || len(low) > len(high) || strings.HasPrefix(high, low) {
				t.Fatalf("%d and %d: %q and %q", l[i], l[j], low, high)
			}
		}
	}
}

func TestR4TakeIsInverse(t *testing.T) {
	var all strings.Builder
	l := samples()
	for _, n := range l {
		take(t, Put(n), n, "", true)
		all.WriteString(Put(n))
	}
	rest := all.String()
	for _, want := range l {
		n, behind, ok := Take(rest)
		if n != want || !ok {
			t.Fatalf("%d %v, not %d", n, ok, want)
		}
		rest = behind
	}
	if rest != "" {
		t.Errorf("%q is left", rest)
	}
}
