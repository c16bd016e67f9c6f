package journal

import (
	"math"
	"math/rand"
	"slices"
	"strings"
	"testing"

	"moult/api"
	"moult/varint"
)

func x(n int) string { return strings.Repeat("x", n) }

// written is the encoding of a batch, as the chapter's words say.
func written(l ...string) string {
	s := varint.Put(uint64(len(l)))
	for _, text := range l {
		s += varint.Put(uint64(len(text))) + text
	}
	return s
}

// of is so many times the same string.
func of(n int, s string) []string { return slices.Repeat([]string{s}, n) }

// noise is so many bytes of no pattern, the same ones each time.
func noise(n int, seed int64) string {
	b := make([]byte, n)
	rand.New(rand.NewSource(seed)).Read(b)
	return string(b)
}

// someBatches have as many strings, and strings as long, as there are borders, up to encodings of 40000 bytes.
func someBatches() [][]string {
	l := [][]string{
		nil, {""}, {"a"}, {"a", "b"}, {"", "bc"}, {"", "", ""}, {"\x00"}, {"\xff", "\x00\x00"}, {"é", written("a"), written()},
		of(49, ""), of(50, ""), of(50, "ab"), of(50, x(797)), {x(39996)}, {x(39990), "", "abc"},
	}
	for _, n := range []int{239, 240, 241, 242, 2287, 2288, 2289, 10000} {
		l = append(l, []string{x(n)}, []string{"a", noise(n, int64(n)), "b"}, []string{x(n), x(n), ""})
	}
	return l
}

func TestJ1Batch(t *testing.T) {
	for _, c := range []struct {
		l    []string
		want string
	}{
		{nil, "\x00"},
		{[]string{}, "\x00"},
		{[]string{""}, "\x01\x00"},
		{[]string{"a"}, "\x01\x01a"},
		{[]string{"", "bc"}, "\x02\x00\x02bc"},
		{[]string{"\xff", "\x00\x00"}, "\x02\x01\xff\x02\x00\x00"},
		{of(50, ""), "\x32" + strings.Repeat("\x00", 50)},
		{[]string{x(240)}, "\x01\xf0" + x(240)},
		{[]string{x(241), "a"}, "\x02\xf1\x01" + x(241) + "\x01a"},
		{[]string{x(2288)}, "\x01\xf9\x00\x00" + x(2288)},
	} {
		if s, e := Batch(c.l); s != c.want || e != api.OK {
			t.Errorf("Batch(%.40q): %.40q %v, not %.40q", c.l, s, e, c.want)
		}
	}
	for _, l := range someBatches() {
		if s, e := Batch(l); s != written(l...) || e != api.OK {
			t.Errorf("Batch(%.40q): %.40q %v", l, s, e)
		}
	}
}

func TestJ1BatchOfMany(t *testing.T) {
	for _, l := range [][]string{of(51, ""), of(52, "a"), of(1000, ""), of(51, x(40001))} {
		if s, e := Batch(l); s != "" || e != api.ErrMany {
			t.Errorf("Batch of %d: %.40q %v", len(l), s, e)
		}
	}
	if s, e := Batch(of(60, "a")[:50]); s != written(of(50, "a")...) || e != api.OK {
		t.Errorf("Batch of 50 ahead of others: %.40q %v", s, e)
	}
}

// TestJ1BatchOfLong goes up to 40000 bytes, and beyond, with what is one byte too much in each place.
func TestJ1BatchOfLong(t *testing.T) {
	for _, c := range []struct {
		l    []string
		size int
	}{
		{[]string{x(39996)}, 40000},
		{[]string{x(39997)}, 40001},
		{[]string{x(39995), ""}, 40000},
		{[]string{x(39996), ""}, 40001},
		{[]string{"", x(39996)}, 40001},
		{[]string{x(20000), x(19993)}, 40000},
		{[]string{x(20000), x(19994)}, 40001},
		{append(of(49, ""), x(39947)), 40000},
		{append(of(49, ""), x(39948)), 40001},
		{append([]string{x(39947)}, of(49, "")...), 40000},
		{append([]string{x(39948)}, of(49, "")...), 40001},
		{of(50, x(797)), 39951},
		{of(50, x(798)), 40001},
		{[]string{x(40000)}, 40004},
		{[]string{x(67824)}, 67829},
		{of(50, x(1<<20)), 0},
		{[]string{x(1 << 24)}, 0},
	} {
		s, e := Batch(c.l)
		if fits := c.size > 0 && c.size <= 40000; fits && (s != written(c.l...) || len(s) != c.size || e != api.OK) || !fits && (s != "" || e != api.ErrLong) {
			t.Errorf("Batch of %d, %d bytes: %.20q of %d, %v", len(c.l), c.size, s, len(s), e)
		}
	}
}

func unbatch(t *testing.T, s string, want []string, wantE api.Errno) {
	t.Helper()
	if l, e := Unbatch(s); !slices.Equal(l, want) || e != wantE {
		t.Errorf("Unbatch(%.40q) of %d bytes: %.40q %v, not %.40q %v", s, len(s), l, e, want, wantE)
	}
}

func TestJ1Unbatch(t *testing.T) {
	unbatch(t, "\x00", nil, api.OK)
	unbatch(t, "\x01\x00", []string{""}, api.OK)
	unbatch(t, "\x01\x01a", []string{"a"}, api.OK)
	unbatch(t, "\x02\x00\x02bc", []string{"", "bc"}, api.OK)
	for _, l := range someBatches() {
		unbatch(t, written(l...), l, api.OK)
	}
	// What is longer than a payload may be is the encoding of a batch nevertheless.
	unbatch(t, written(x(40000), x(100000)), []string{x(40000), x(100000)}, api.OK)
}

func TestJ1UnbatchOfNone(t *testing.T) {
	for _, s := range []string{
		"", "\x01", "\x02", "\x32", "\x33", "\xf0", "\xf1", "\xf9\x00", "\xff", // less than a batch
		"\x00x", "\x00\x00", "\x01\x00\x00", "\x01\x01ab", "\x02\x00\x02bcd", // more than one
		"\x01\x02a", "\x02\x01a", "\x02\x01a\x01", "\x01\xf0" + x(239), "\x01\xf1\x01" + x(240), // strings that are not there
		"\x33" + strings.Repeat("\x00", 51), "\xf0" + strings.Repeat("\x00", 240), "\xf1\x01" + strings.Repeat("\x00", 241), // too many
		"\xf1\x00" + strings.Repeat("\x00", 240), "\xfa\x00\x00\x00", "\xfa\x00\x00\x01\x00", "\x01\xfa\x00\x00\x01a", // numbers in more bytes than they need
	} {
		unbatch(t, s, nil, api.ErrForm)
	}
	for _, n := range []uint64{51, 1 << 16, 1<<31 - 1, 1 << 31, 1 << 32, 1<<32 + 1, 1<<63 - 1, 1 << 63, 1<<63 + 1, math.MaxUint64 - 1, math.MaxUint64} {
		for _, behind := range []string{"", "a", x(50), strings.Repeat("\x00", 51), strings.Repeat("\x00", 1000)} {
			unbatch(t, varint.Put(n)+behind, nil, api.ErrForm)
			if n > 50 {
				unbatch(t, "\x01"+varint.Put(n)+behind[:min(len(behind), 50)], nil, api.ErrForm)
				unbatch(t, "\x02\x01a"+varint.Put(n)+behind[:min(len(behind), 50)], nil, api.ErrForm)
			}
		}
	}
}

func TestJ1UnbatchOfCut(t *testing.T) {
	for _, l := range someBatches() {
		s := written(l...)
		for n := 0; n < len(s); n += 1 + len(s)/500 {
			unbatch(t, s[:n], nil, api.ErrForm)
		}
		unbatch(t, s[:len(s)-1], nil, api.ErrForm)
		unbatch(t, s+"\x00", nil, api.ErrForm)
		unbatch(t, s+s, nil, api.ErrForm)
	}
}

// TestJ1UnbatchOfAny: what is read is what the same bytes are written from, and what is not read, no strings are written as.
func TestJ1UnbatchOfAny(t *testing.T) {
	alphabet := "\x00\x01\x02\x03\x32\x33a\xf1"
	for n := range 6 {
		for i := range 1 << (3 * n) {
			b := make([]byte, n)
			for k := range b {
				b[k] = alphabet[i>>(3*k)&7]
			}
			anyBatch(t, string(b))
		}
	}
	for i := range 20000 {
		b := []byte(noise(i%30, int64(i)))
		for k := range b {
			b[k] %= byte(2 + i%6)
		}
		anyBatch(t, string(b))
	}
}

func anyBatch(t *testing.T, s string) {
	t.Helper()
	l, e := Unbatch(s)
	if e == api.OK && (written(l...) != s || len(l) > 50) || e != api.OK && (e != api.ErrForm || len(l) != 0 || isWritten(s)) {
		t.Fatalf("Unbatch(%q): %q %v", s, l, e)
	}
}

// isWritten tells whether s is the encoding of a batch of short strings.
func isWritten(s string) bool {
	if s == "" || s[0] > 50 {
		return false
	}
	many, left := int(s[0]), s[1:]
	for ; many > 0; many-- {
		if left == "" || left[0] > 240 || int(left[0]) > len(left)-1 {
			return false
		}
		left = left[1+int(left[0]):]
	}
	return left == ""
}

func TestP3BatchesAreNew(t *testing.T) {
	l := []string{"a", "b", "beyond"}
	Batch(l[:2])
	if !slices.Equal(l, []string{"a", "b", "beyond"}) {
		t.Errorf("%q", l)
	}
	s := written("a", "b")
	m, _ := Unbatch(s)
	clear(m[:cap(m)])
	unbatch(t, s, []string{"a", "b"}, api.OK)
}
