package table

import (
	"cmp"
	"math"
	"math/rand"
	"slices"
	"strings"
	"testing"

	"moult/api"
	"moult/varint"
)

func x(n int) string { return strings.Repeat("x", n) }

// noise is so many bytes of no pattern, the same ones each time.
func noise(n int, seed int64) string {
	b := make([]byte, n)
	rand.New(rand.NewSource(seed)).Read(b)
	return string(b)
}

// citing are data that cite a table and a version, whatever numbers they have.
func citing(table, version uint64, behind string) string {
	return varint.Put(table) + varint.Put(version) + behind
}

func live(key string, seq int, data string) api.Entry {
	return api.Entry{Key: key, Seq: seq, Data: data}
}

func dead(key string, seq int) api.Entry {
	return api.Entry{Key: key, Seq: seq, Dead: true}
}

// someSeqs are those at which a border may go wrong; the first ones are those of entries.
func someSeqs() ([]int, []int) {
	inside := []int{1, 2, 3, 255, 256, 257, 1<<16 - 1, 1 << 16, 1<<31 - 1, 1 << 31, 1 << 32, 1<<40 - 256, 1<<40 - 1, 1 << 40}
	outside := []int{0, -1, -2, -256, -1 << 40, math.MinInt, math.MinInt + 1, 1<<40 + 1, 1 << 41, 1 << 56, math.MaxInt - 256, math.MaxInt - 1, math.MaxInt}
	return inside, outside
}

// someKeys are in no order, and such that one begins another, with bytes 0 and 255 in each place.
func someKeys() []string {
	l := []string{"", "é", "key", x(239), x(240), x(241), x(1199), x(1200), strings.Repeat("\x00", 1200), strings.Repeat("\xff", 1200), strings.Repeat("\x00\xff", 600)}
	for _, a := range []string{"\x00", "\x01", "a", "\xfe", "\xff"} {
		for _, b := range []string{"", "\x00", "\x01", "a", "\xff"} {
			for _, c := range []string{"", "\x00", "\xff", "b"} {
				l = append(l, a+b+c)
			}
		}
	}
	slices.Sort(l)
	l = slices.Compact(l)
	rand.New(rand.NewSource(1)).Shuffle(len(l), func(i, j int) { l[i], l[j] = l[j], l[i] })
	return l
}

func right(t *testing.T, e api.Entry, want bool) {
	t.Helper()
	if ok := Right(e); ok != want {
		t.Errorf("Right of key %.20q of %d bytes, seq %d, dead %v, data %.20q of %d bytes: %v", e.Key, len(e.Key), e.Seq, e.Dead, e.Data, len(e.Data), ok)
	}
}

func TestT1Right(t *testing.T) {
	for _, key := range someKeys() {
		right(t, live(key, 1, "\x01\x02"), true)
		right(t, dead(key, 1), true)
	}
	for _, n := range []int{1201, 1202, 2400, 1 << 20} {
		right(t, live(x(n), 1, "\x01\x02"), false)
		right(t, dead(x(n), 1), false)
	}
	// The bytes of the key count, not those of the inner key or the runes.
	right(t, dead(strings.Repeat("\x00", 1201), 1), false)
	right(t, dead(strings.Repeat("é", 600), 1), true)
	right(t, dead(strings.Repeat("é", 601), 1), false)
	inside, outside := someSeqs()
	for _, seq := range inside {
		right(t, live("k", seq, "\x01\x02"), true)
		right(t, dead("k", seq), true)
	}
	for _, seq := range outside {
		right(t, live("k", seq, "\x01\x02"), false)
		right(t, dead("k", seq), false)
	}
}

func TestT1RightOfData(t *testing.T) {
	for _, data := range []string{"\x00\x00", "\x01\x02", "\x01\x02r", "\x00\x00\x00", citing(1000000, 1000000, ""), citing(1000000, 1000000, "\xff"), "\x01\x02" + x(24998), citing(1000000, 1000000, x(24992))} {
		right(t, live("k", 1, data), true)
		right(t, api.Entry{Key: "k", Seq: 1, Dead: true, Data: data}, false)
	}
	for _, data := range []string{"", "\x01", "\xff", "\x01\xf1", citing(1000001, 1, ""), citing(1, 1000001, "r"), "\x01\x02" + x(24999), citing(1000000, 1000000, x(24993)), "\x01\x02" + x(1<<20)} {
		right(t, live("k", 1, data), false)
		right(t, api.Entry{Key: "k", Seq: 1, Dead: true, Data: data}, data == "")
	}
	right(t, api.Entry{}, false)
	right(t, live(x(1200), 1<<40, "\x01\x02"+x(24998)), true)
	right(t, live(x(1201), 1<<40, "\x01\x02"+x(24998)), false)
}

func cite(t *testing.T, data string, wantTable, wantVersion int, want bool) {
	t.Helper()
	if table, version, ok := Cite(data); table != wantTable || version != wantVersion || ok != want {
		t.Errorf("Cite(%.20q): %d, %d, %v, not %d, %d, %v", data, table, version, ok, wantTable, wantVersion, want)
	}
}

func TestT1Cite(t *testing.T) {
	cite(t, "\x01\x02\x09", 1, 2, true)
	cite(t, "\x01\x02", 1, 2, true)
	cite(t, "\x00\x00", 0, 0, true)
	numbers := []uint64{0, 1, 2, 239, 240, 241, 242, 2287, 2288, 67823, 67824, 1 << 19, 999999, 1000000}
	for _, table := range numbers {
		for _, version := range numbers {
			for _, behind := range []string{"", "\x00", "r", "\xff", x(30000)} {
				cite(t, citing(table, version, behind), int(table), int(version), true)
			}
		}
		for _, great := range []uint64{1000001, 1 << 20, 1 << 24, 1<<31 + 1, 1<<32 + 1, 1<<63 - 1, 1 << 63, 1<<64 - 1} {
			cite(t, citing(table, great, "r"), 0, 0, false)
			cite(t, citing(great, table, "r"), 0, 0, false)
			cite(t, citing(great, great, "r"), 0, 0, false)
		}
		whole := citing(table, 1000000, "")
		for n := range whole {
			cite(t, whole[:n], 0, 0, false)
		}
	}
	// Less than a number, or one in more bytes than it needs.
	for _, s := range []string{"", "\xf1", "\x01\xf1", "\x01\xf9\x00", "\x01\xfa\x00\x00", "\xf1\x00\x05", "\x05\xf1\x00", "\xfa\x00\x00\x01\x01", "\x01\xfa\x00\x00\x01", "\xff\x00\x00\x00\x00\x00\x00\x00\x01\x01"} {
		cite(t, s, 0, 0, false)
	}
}

func less(t *testing.T, a, b api.Entry, want bool) {
	t.Helper()
	if ok := Less(a, b); ok != want {
		t.Errorf("Less of %.20q %d and %.20q %d: %v", a.Key, a.Seq, b.Key, b.Seq, ok)
	}
}

func TestT1Less(t *testing.T) {
	less(t, dead("a", 1), dead("b", 1), true)
	less(t, dead("b", 1), dead("a", 1), false)
	less(t, dead("a", 2), dead("a", 1), true)
	less(t, dead("a", 1), dead("a", 2), false)
	less(t, dead("a", 1), dead("a", 1), false)
	less(t, dead("a", 1), dead("b", 9), true)
	less(t, dead("b", 9), dead("a", 1), false)
	less(t, dead("", 1), dead("\x00", 2), true)
	less(t, dead("a", 1), dead("a\x00", 2), true)
	less(t, dead("\x7f", 1), dead("\x80", 2), true)
	less(t, dead("Z", 1), dead("a", 2), true)
	// Only keys and seqs count.
	less(t, live("a", 1, "\x01"), dead("a", 1), false)
	less(t, dead("a", 1), live("a", 1, "\x01"), false)
	less(t, live("a", 1, "\x01"), live("a", 1, "\x02"), false)
	less(t, live("a", 1, "\x02"), live("a", 1, "\x01"), false)
	inside, outside := someSeqs()
	for _, a := range someKeys() {
		for _, b := range someKeys() {
			less(t, dead(a, 5), dead(b, 7), a < b)
			less(t, dead(a, 7), dead(b, 5), a <= b)
		}
	}
	for _, a := range append(inside, outside...) {
		for _, b := range append(inside, outside...) {
			less(t, dead("k", a), dead("k", b), a > b)
		}
	}
}

// inner is what the chapter says of an inner key, byte by byte.
func inner(key string, seq int) string {
	var b []byte
	for _, c := range []byte(key) {
		b = append(b, c)
		if c == 0 {
			b = append(b, 255)
		}
	}
	b = append(b, 0, 0)
	n := uint64(math.MaxInt) - uint64(seq)
	for power := uint64(1) << 56; power > 0; power /= 256 {
		b = append(b, byte(n/power%256))
	}
	return string(b)
}

func TestT1Inner(t *testing.T) {
	for _, c := range []struct {
		key  string
		seq  int
		want string
	}{
		{"k", 1, "k\x00\x00\x7f\xff\xff\xff\xff\xff\xff\xfe"},
		{"", 0, "\x00\x00\x7f\xff\xff\xff\xff\xff\xff\xff"},
		{"", 1 << 40, "\x00\x00\x7f\xff\xfe\xff\xff\xff\xff\xff"},
		{"a\x00", 256, "a\x00\xff\x00\x00\x7f\xff\xff\xff\xff\xff\xfe\xff"},
		{"\x00\x00b\xff", 3, "\x00\xff\x00\xffb\xff\x00\x00\x7f\xff\xff\xff\xff\xff\xff\xfc"},
		{"k", math.MaxInt, "k\x00\x00\x00\x00\x00\x00\x00\x00\x00\x00"},
		{"k", -1, "k\x00\x00\x80\x00\x00\x00\x00\x00\x00\x00"},
		{"k", math.MinInt, "k\x00\x00\xff\xff\xff\xff\xff\xff\xff\xff"},
	} {
		if s := Inner(c.key, c.seq); s != c.want {
			t.Errorf("Inner(%q, %d): %q, not %q", c.key, c.seq, s, c.want)
		}
	}
	inside, outside := someSeqs()
	for _, key := range append(someKeys(), noise(70000, 1)) {
		for _, seq := range append(inside, outside...) {
			if s, want := Inner(key, seq), inner(key, seq); s != want {
				t.Errorf("Inner(%.20q, %d): %.60q, not %.60q", key, seq, s, want)
			}
		}
	}
}

func outer(t *testing.T, s, wantKey string, wantSeq int, want bool) {
	t.Helper()
	if key, seq, ok := Outer(s); key != wantKey || seq != wantSeq || ok != want {
		t.Errorf("Outer(%.60q): %.20q, %d, %v, not %.20q, %d, %v", s, key, seq, ok, wantKey, wantSeq, want)
	}
}

func TestT1Outer(t *testing.T) {
	inside, outside := someSeqs()
	for _, key := range append(someKeys(), noise(70000, 1), strings.Repeat("\x00", 5000)) {
		for _, seq := range append(inside, 0) {
			outer(t, inner(key, seq), key, seq, true)
		}
		for _, seq := range outside[1:] {
			outer(t, inner(key, seq), "", 0, false)
		}
		whole := inner(key, 7)
		for n := max(0, len(whole)-12); n < len(whole); n++ {
			// What is cut off leaves a number that is too great, or none.
			outer(t, whole[:n], "", 0, false)
		}
	}
	last := "\x7f\xff\xff\xff\xff\xff\xff\xfe"
	for _, s := range []string{
		"", "\x00", "\x00\x00", last, "\x00" + last, "k\x00\x00", "k" + last, "k\x00" + last, "kk" + last, // too short, or without an end
		"k\x00\x01" + last, "k\x01\x00" + last, "k\x00\xff" + last, "k\xff\x00" + last, // another end
		"\x00\x00\x00" + last, "\x00\x00\x00\x00" + last, "\x00k\x00\x00" + last, "k\x00\x00\x00" + last, "k\x00\xff\x00\x00\x00" + last, // a byte 0 that lacks its byte 255
		"\x00\xfe\x00\x00" + last, "a\x00\x00\xffb\x00\x00" + last, "\x00\x00" + last + "x", inner("k", 1) + inner("k", 1),
	} {
		outer(t, s, "", 0, false)
	}
}

// TestT1OuterOfAny asks about every head of up to eight of some bytes: those that are told are those of which a key is made.
func TestT1OuterOfAny(t *testing.T) {
	const alphabet = "\x00\x01a\xff"
	tail := inner("", 9)[2:]
	told := map[string]int{}
	heads := []string{""}
	for i := 0; i < len(heads); i++ {
		key, seq, ok := Outer(heads[i] + tail)
		if ok && (seq != 9 || inner(key, seq) != heads[i]+tail) || !ok && (key != "" || seq != 0) {
			t.Fatalf("Outer(%q): %q, %d, %v", heads[i]+tail, key, seq, ok)
		}
		if ok {
			told[key]++
		}
		for _, b := range []byte(alphabet) {
			if len(heads[i]) < 8 {
				heads = append(heads, heads[i]+string([]byte{b}))
			}
		}
	}
	keys := 0
	for _, key := range heads {
		if len(inner(key, 9)) <= 8+len(tail) {
			if keys++; told[key] != 1 {
				t.Errorf("key %q is told %d times", key, told[key])
			}
		}
	}
	if keys != len(told) || keys < 500 {
		t.Errorf("%d keys, %d told", keys, len(told))
	}
}

func TestT4OrderOfInnerKeys(t *testing.T) {
	var l []api.Entry
	seqs, _ := someSeqs()
	for _, key := range someKeys() {
		for _, seq := range append(seqs[:3:3], seqs[11:]...) {
			l = append(l, dead(key, seq))
		}
	}
	for seed := range int64(200) {
		b := []byte(noise(int(seed%7), seed))
		for i := range b {
			b[i] = "\x00\x01\xfe\xff"[b[i]%4]
		}
		l = append(l, dead(string(b), 1+int(seed%3)))
	}
	for _, a := range l {
		for _, b := range l {
			if Less(a, b) != (Inner(a.Key, a.Seq) < Inner(b.Key, b.Seq)) {
				t.Fatalf("%.20q %d and %.20q %d stand otherwise than their inner keys", a.Key, a.Seq, b.Key, b.Seq)
			}
		}
	}
	byLess := slices.SortedFunc(slices.Values(l), func(a, b api.Entry) int {
		if Less(a, b) {
			return -1
		}
		if Less(b, a) {
			return 1
		}
		return 0
	})
	byInner := slices.SortedFunc(slices.Values(l), func(a, b api.Entry) int {
		return cmp.Compare(Inner(a.Key, a.Seq), Inner(b.Key, b.Seq))
	})
	if !slices.Equal(byLess, byInner) {
		t.Error("sorted by inner keys, entries stand otherwise")
	}
}
