package check

import (
	"hash/crc32"
	"math"
	"math/rand"
	"slices"
	"strings"
	"testing"

	"moult/api"
	"moult/varint"
)

func x(n int) string { return strings.Repeat("x", n) }

func one(b int) string { return string([]byte{byte(b)}) }

// noise is so many bytes of no pattern, the same ones each time.
func noise(n int, seed int64) string {
	b := make([]byte, n)
	rand.New(rand.NewSource(seed)).Read(b)
	return string(b)
}

// inverted is s with these bits of one byte inverted.
func inverted(s string, at int, bits byte) string {
	b := []byte(s)
	b[at] ^= bits
	return string(b)
}

// sumBytes are the bytes of the library's sum, by which frames are written here without what is tested.
func sumBytes(s string) string {
	n := crc32.ChecksumIEEE([]byte(s))
	return one(int(n>>24)) + one(int(n>>16)) + one(int(n>>8)) + one(int(n))
}

func written(s string) string { return varint.Put(uint64(len(s))) + s + sumBytes(s) }

func framed(t *testing.T, s string) string {
	t.Helper()
	f, e := Frame(s)
	if e != api.OK {
		t.Fatalf("Frame(%.9q) of %d bytes: %v", s, len(s), e)
	}
	return f
}

// payloads have the lengths at each border of the number of bytes ahead of them, up to the greatest one.
func payloads() []string {
	l := []string{"a", "bcd", "123456789", "\x00", "\xff", "\x00\x00\x00\x00", "\xff\xff\xff\xff", "é", written("a"), written("")}
	for _, n := range []int{0, 1, 2, 3, 4, 5, 239, 240, 241, 242, 495, 496, 2286, 2287, 2288, 2289, 39999, 40000} {
		l = append(l, x(n), strings.Repeat("\x00", n), noise(n, int64(n)))
	}
	return l
}

func TestC1Sum(t *testing.T) {
	for _, c := range []struct {
		s    string
		want uint32
	}{
		{"", 0},
		{"123456789", 0xCBF43926},
		{"a", 0xE8B7BE43},
		{"abc", 0x352441C2},
		{"\x00", 0xD202EF8D},
		{"\xff", 0xFF000000},
		{"\x00\x00\x00\x00", 0x2144DF1C},
		{"\xff\xff\xff\xff", 0xFFFFFFFF},
		{strings.Repeat("\x00", 32), 0x190A55AD},
		{strings.Repeat("\xff", 32), 0xFF6CAB0B},
		{"The quick brown fox jumps over the lazy dog", 0x414FA339},
	} {
		if n := Sum(c.s); n != c.want {
			t.Errorf("Sum(%q): %#x, not %#x", c.s, n, c.want)
		}
	}
}

func TestC1SumOfAll(t *testing.T) {
	for first := range 256 {
		for second := range 256 {
			for _, s := range []string{one(first), one(first) + one(second), "ab" + one(first) + "c" + one(second)} {
				if n := Sum(s); n != crc32.ChecksumIEEE([]byte(s)) {
					t.Fatalf("Sum(%q): %#x", s, n)
				}
			}
		}
	}
	for n := range 1000 {
		if s := noise(n, 1); Sum(s) != crc32.ChecksumIEEE([]byte(s)) {
			t.Fatalf("Sum of %d bytes: %#x", n, Sum(s))
		}
	}
	// A sum is not bound to what a frame holds.
	for _, n := range []int{40000, 40001, 1 << 20} {
		if s := noise(n, 2); Sum(s) != crc32.ChecksumIEEE([]byte(s)) {
			t.Errorf("Sum of %d bytes: %#x", n, Sum(s))
		}
	}
}

func TestC2Frame(t *testing.T) {
	for _, c := range []struct{ s, want string }{
		{"", "\x00\x00\x00\x00\x00"},
		{"a", "\x01a\xe8\xb7\xbe\x43"},
		{"\xff", "\x01\xff\xff\x00\x00\x00"},
		{"123456789", "\x09123456789\xcb\xf4\x39\x26"},
	} {
		if f, e := Frame(c.s); f != c.want || e != api.OK {
			t.Errorf("Frame(%q): %q %v, not %q", c.s, f, e, c.want)
		}
	}
	for _, s := range payloads() {
		if f, e := Frame(s); f != written(s) || e != api.OK {
			t.Errorf("Frame(%.9q) of %d bytes: %.20q %v", s, len(s), f, e)
		}
	}
	for n, head := range map[int]string{240: "\xf0", 241: "\xf1\x01", 2287: "\xf8\xff", 2288: "\xf9\x00\x00", 40000: "\xf9\x93\x50"} {
		if f, e := Frame(x(n)); f != head+x(n)+sumBytes(x(n)) || e != api.OK {
			t.Errorf("Frame of %d bytes: %.20q %v", n, f, e)
		}
	}
}

func TestC2FrameOfTooLong(t *testing.T) {
	for _, n := range []int{40001, 40002, 1 << 16, 1<<16 + 1, 67824, 1 << 20} {
		if f, e := Frame(x(n)); f != "" || e != api.ErrLong {
			t.Errorf("Frame of %d bytes: %.20q %v", n, f, e)
		}
	}
}

func unframe(t *testing.T, s, payload, rest string, want api.Errno) {
	t.Helper()
	if p, r, e := Unframe(s); p != payload || r != rest || e != want {
		t.Errorf("Unframe(%.40q): %.20q %.20q %v, not %.20q %.20q %v", s, p, r, e, payload, rest, want)
	}
}

func TestC3Unframe(t *testing.T) {
	unframe(t, "\x01a\xe8\xb7\xbe\x43z", "a", "z", api.OK)
	unframe(t, "\x00\x00\x00\x00\x00", "", "", api.OK)
	unframe(t, "\x00\x00\x00\x00\x00\x00", "", "\x00", api.OK)
	for _, s := range payloads() {
		unframe(t, written(s), s, "", api.OK)
	}
}

func TestC3UnframeOfNoNumber(t *testing.T) {
	for _, head := range []string{"", "\xf1", "\xf8", "\xf9", "\xf9\x00", "\xfa\x01\x08", "\xff", "\xff\x80\x00\x00\x00\x00\x00\x00"} {
		unframe(t, head, "", "", api.ErrForm)
	}
	// Numbers in more bytes than they need are none, even if all that they announce is there.
	for _, head := range []string{"\xf1\x00", "\xfa\x00\x00\xf0", "\xfa\x00\x93\x50", "\xfa\x00\x9c\x41", "\xff\x00\x00\x00\x00\x00\x00\x00\x01", "\xff\x00\x00\x00\x00\x00\x00\xff\xff"} {
		unframe(t, head, "", "", api.ErrForm)
		for _, n := range []int{1, 240, 40000} {
			unframe(t, head+x(n)+sumBytes(x(n)), "", "", api.ErrForm)
		}
	}
}

func TestC3UnframeOfTooLong(t *testing.T) {
	for _, n := range []uint64{
		40001, 40002, 65536, 67823, 67824, 1 << 24, 1<<31 - 1, 1 << 31, 1<<32 - 1, 1 << 32, 1<<32 + 1, 1<<32 + 40000,
		1<<63 - 5, 1<<63 - 4, 1<<63 - 1, 1 << 63, 1<<63 + 1, math.MaxUint64 - 4, math.MaxUint64 - 3, math.MaxUint64,
	} {
		head := varint.Put(n)
		for _, behind := range []string{"", "a", "\x00\x00\x00\x00", x(40000), x(40001) + sumBytes(x(40001))} {
			unframe(t, head+behind, "", "", api.ErrLong)
		}
	}
}

func TestC3UnframeOfTooFew(t *testing.T) {
	for n, head := range map[int]string{0: "\x00", 1: "\x01", 5: "\x05", 240: "\xf0", 241: "\xf1\x01", 2288: "\xf9\x00\x00", 40000: "\xf9\x93\x50"} {
		// Too few is what is told, whether what there is of the sum is wrong or not.
		for _, sum := range []string{sumBytes(x(n)), "\x01\x02\x03\x04"} {
			for cut := 1; cut <= 4; cut++ {
				unframe(t, head+x(n)+sum[:4-cut], "", "", api.ErrForm)
			}
		}
		unframe(t, head, "", "", api.ErrForm)
		unframe(t, head+x(n/2), "", "", api.ErrForm)
		unframe(t, head+x(max(0, n-1)), "", "", api.ErrForm)
	}
}

func TestC3UnframeOfWrongSum(t *testing.T) {
	for _, s := range []string{
		"\x00\x00\x00\x00\x01", "\x00\xff\xff\xff\xff", "\x00\x01\x00\x00\x00",
		"\x01a\x43\xbe\xb7\xe8", "\x01a\x17\x48\x41\xbc", "\x01b\xe8\xb7\xbe\x43", "\x01a\x00\x00\x00\x00", "\x01a\xe8\xb7\xbe\x44",
		"\x02aa\xe8\xb7\xbe\x43", "\x00\xe8\xb7\xbe\x43", "\xf9\x93\x50" + x(40000) + "\x00\x00\x00\x00",
	} {
		unframe(t, s, "", "", api.ErrSum)
		unframe(t, s+"z", "", "", api.ErrSum)
		unframe(t, s+written("a"), "", "", api.ErrSum)
	}
}

// TestC3UnframeOfAny holds what comes out of any bytes against what the document says, error by error.
func TestC3UnframeOfAny(t *testing.T) {
	for i := range 20000 {
		s := noise(i%40, int64(i))
		if i%2 == 0 && s != "" {
			s = one(i/2%12) + s[1:]
		}
		p, rest, e := Unframe(s)
		if want := outcome(s); e != want {
			t.Fatalf("Unframe(%q): %v, not %v", s, e, want)
		}
		if e == api.OK && written(p)+rest != s || e != api.OK && (p != "" || rest != "") {
			t.Fatalf("Unframe(%q): %q %q %v", s, p, rest, e)
		}
	}
}

func outcome(s string) api.Errno {
	n, behind, ok := varint.Take(s)
	switch {
	case !ok:
		return api.ErrForm
	case n > 40000:
		return api.ErrLong
	case uint64(len(behind)) < n+4:
		return api.ErrForm
	case behind[n:n+4] != sumBytes(behind[:n]):
		return api.ErrSum
	}
	return api.OK
}

func scan(t *testing.T, s string, want []string, total int, wantE api.Errno) {
	t.Helper()
	if l, n, e := Scan(s); !slices.Equal(l, want) || n != total || e != wantE {
		t.Errorf("Scan(%.40q): %.40q %d %v, not %.40q %d %v", s, l, n, e, want, total, wantE)
	}
}

func TestC4Scan(t *testing.T) {
	a := "\x01a\xe8\xb7\xbe\x43"
	scan(t, "", nil, 0, api.OK)
	scan(t, a, []string{"a"}, 6, api.OK)
	scan(t, a+a, []string{"a", "a"}, 12, api.OK)
	scan(t, a+a+"\x01", []string{"a", "a"}, 12, api.ErrForm)
	scan(t, "\x00\x00\x00\x00\x00", []string{""}, 5, api.OK)
	scan(t, "\x00\x00\x00\x00\x00"+a+"\x00\x00\x00\x00\x00", []string{"", "a", ""}, 16, api.OK)
	all, whole := payloads(), ""
	for i, s := range all {
		whole += written(s)
		scan(t, whole, all[:i+1], len(whole), api.OK)
	}
}

func TestC4ScanOfMany(t *testing.T) {
	for _, n := range []int{1000, 50000} {
		scan(t, strings.Repeat("\x00\x00\x00\x00\x00", n), make([]string, n), 5*n, api.OK)
	}
}

func TestC4ScanOfErrors(t *testing.T) {
	bad := []struct {
		s string
		e api.Errno
	}{
		{"\x01", api.ErrForm}, {"\xf1", api.ErrForm}, {"\xff", api.ErrForm}, {"\xf1\x00", api.ErrForm}, {"\x05abc", api.ErrForm}, {"\x01a\xe8\xb7\xbe", api.ErrForm},
		{varint.Put(40001), api.ErrLong}, {varint.Put(50000), api.ErrLong}, {varint.Put(math.MaxUint64), api.ErrLong},
		{"\x00\x00\x00\x00\x01", api.ErrSum}, {"\x01b\xe8\xb7\xbe\x43", api.ErrSum},
	}
	for _, ahead := range [][]string{nil, {""}, {"a"}, {"bcd", "a", ""}, {x(300), x(40000), "a"}} {
		good := ""
		for _, s := range ahead {
			good += written(s)
		}
		for _, b := range bad {
			scan(t, good+b.s, ahead, len(good), b.e)
		}
		// What stands behind the first that is wrong is not looked at, be it frames or not.
		for _, b := range []string{"\x00\x00\x00\x00\x01", "\x01b\xe8\xb7\xbe\x43"} {
			scan(t, good+b+written("a"), ahead, len(good), api.ErrSum)
			scan(t, good+b+"\xff", ahead, len(good), api.ErrSum)
		}
		scan(t, good+varint.Put(40001)+written("a"), ahead, len(good), api.ErrLong)
		scan(t, good+"\xf1\x00"+written("a"), ahead, len(good), api.ErrForm)
	}
}

// TestC4ScanOfAny cuts and damages some frames at each place: what comes out is what Unframe answers, one after the other.
func TestC4ScanOfAny(t *testing.T) {
	whole := written("a") + written("") + written(x(20)) + written("\x00\xff") + written(noise(300, 3)) + written("z")
	for at := range len(whole) {
		for _, s := range []string{whole[:at], whole[at:], inverted(whole, at, 1), inverted(whole, at, 0x80), inverted(whole, at, 0xff)} {
			var want []string
			left, e := s, api.OK
			for left != "" {
				p, rest, why := Unframe(left)
				if e = why; e != api.OK {
					break
				}
				want, left = append(want, p), rest
			}
			scan(t, s, want, len(s)-len(left), e)
		}
	}
}

func TestC4FramesEndEarly(t *testing.T) {
	all := frames(written("a") + written("b") + written("c") + "\xff")
	for most := 1; most <= 4; most++ {
		told := 0
		for range all {
			if told++; told == most {
				break
			}
		}
		if told != most {
			t.Errorf("%d, not %d", told, most)
		}
	}
	told := ""
	for f, e := range all {
		if told += f.payload; e != api.OK && (f != frame{} || e != api.ErrForm || told != "abc") {
			t.Errorf("%v %v behind %q", f, e, told)
		}
	}
	if told != "abc" {
		t.Errorf("%q", told)
	}
}

func TestC5WhateverFollows(t *testing.T) {
	for _, s := range payloads() {
		f := framed(t, s)
		for _, rest := range []string{"", "\x00", "\xff", "z", "\xff\xff\xff\xff", f, s, x(50000)} {
			unframe(t, f+rest, s, rest, api.OK)
		}
	}
}

func TestC5Truncated(t *testing.T) {
	for _, s := range payloads() {
		f := framed(t, s)
		for n := 0; n < len(f); n += 1 + len(f)/1000 {
			unframe(t, f[:n], "", "", api.ErrForm)
		}
		for n := max(0, len(f)-8); n < len(f); n++ {
			unframe(t, f[:n], "", "", api.ErrForm)
		}
	}
}

// TestC5OneBit inverts each bit of short frames, and of long ones those at some places and at both ends.
func TestC5OneBit(t *testing.T) {
	for _, s := range payloads() {
		f := framed(t, s)
		head := len(f) - len(s) - 4
		for at := head; at < len(f); at++ {
			if len(s) > 300 && at != head && at < len(f)-5 && at%(len(f)/7) != 0 {
				continue
			}
			for bit := range 8 {
				unframe(t, inverted(f, at, 1<<bit), "", "", api.ErrSum)
				unframe(t, inverted(f, at, 1<<bit)+"z", "", "", api.ErrSum)
			}
		}
	}
}

func TestC5OneByte(t *testing.T) {
	for _, s := range []string{"a", "\x00", x(9), noise(60, 4), strings.Repeat("\x00", 60), noise(300, 5)} {
		for at := range len(s) {
			told := map[uint32]int{}
			for b := range 256 {
				n := Sum(s[:at] + one(b) + s[at+1:])
				if other, ok := told[n]; ok {
					t.Fatalf("%#x of two strings of %d bytes, with %d and %d at %d", n, len(s), other, b, at)
				}
				told[n] = b
			}
		}
	}
	long := noise(40000, 6)
	for at := 0; at < len(long); at += 499 {
		if bits := byte(1 + at%255); Sum(long) == Sum(inverted(long, at, bits)) {
			t.Errorf("the same sum with %#x inverted at %d", bits, at)
		}
	}
}

// TestP1AnyLength damages the number ahead of a payload, which may then announce anything.
func TestP1AnyLength(t *testing.T) {
	for _, s := range []string{"", "a", x(240), x(241), x(2288), x(40000)} {
		f := written(s)
		for at := range len(f) - len(s) - 4 {
			for bits := 1; bits < 256; bits++ {
				damaged := inverted(f, at, byte(bits))
				if _, _, e := Unframe(damaged); e != outcome(damaged) {
					t.Fatalf("%v of %.9q", e, damaged)
				}
				if l, n, e := Scan(damaged); n > len(damaged) || n == len(damaged) != (e == api.OK) {
					t.Fatalf("%d payloads, %d %v of %.9q", len(l), n, e, damaged)
				}
			}
		}
	}
}

func TestP3ScanIsNew(t *testing.T) {
	s := written("a") + written("b")
	l, _, _ := Scan(s)
	clear(l[:cap(l)])
	scan(t, s, []string{"a", "b"}, 12, api.OK)
}

func TestP4TheSameEachTime(t *testing.T) {
	for range 3 {
		for _, s := range payloads()[:20] {
			unframe(t, written(s)+"z", s, "z", api.OK)
			scan(t, written(s)+"\xff", []string{s}, len(written(s)), api.ErrForm)
		}
	}
}
