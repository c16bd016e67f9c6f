package block

import (
	"math/rand"
	"slices"
	"strings"
	"testing"

	"moult/api"
	"moult/varint"
)

func x(n int) string { return strings.Repeat("x", n) }

// noise is so many bytes of no pattern, the same ones each time.
func noise(n int, seed int64) string {
	b := make([]byte, n)
	rand.New(rand.NewSource(seed)).Read(b)
	return string(b)
}

// of makes pairs of keys and values by turns.
func of(l ...string) []Pair {
	var pairs []Pair
	for i := 0; i < len(l); i += 2 {
		pairs = append(pairs, Pair{l[i], l[i+1]})
	}
	return pairs
}

// alike is how many bytes two texts begin with alike, found from the other end.
func alike(a, b string) int {
	n := min(len(a), len(b))
	for a[:n] != b[:n] {
		n--
	}
	return n
}

// part is a pair as it is written, whatever its lengths are.
func part(common, rest, value uint64, behind string) string {
	return varint.Put(common) + varint.Put(rest) + varint.Put(value) + behind
}

// written is the encoding of a block, as the chapter's words say, be it too long or not.
func written(l ...Pair) string {
	var b strings.Builder
	previous := ""
	for _, p := range l {
		n := alike(previous, p.Key)
		b.WriteString(part(uint64(n), uint64(len(p.Key)-n), uint64(len(p.Value)), p.Key[n:]+p.Value))
		previous = p.Key
	}
	return b.String()
}

// randomPairs are pairs whose keys have much in common, in their order.
func randomPairs(r *rand.Rand, most int) []Pair {
	var keys []string
	for range r.Intn(most + 1) {
		b := make([]byte, r.Intn(1+r.Intn(12)))
		for i := range b {
			b[i] = "\x00a\xff"[r.Intn(3)]
		}
		keys = append(keys, strings.Repeat("k", r.Intn(3)*r.Intn(200))+string(b))
	}
	slices.Sort(keys)
	var l []Pair
	for _, k := range slices.Compact(keys) {
		l = append(l, Pair{k, noise(r.Intn(1<<r.Intn(10)), r.Int63())})
	}
	return l
}

// someBlocks have keys and values as long as there are borders of their lengths, alone and among others, and keys with all and nothing in common.
func someBlocks() [][]Pair {
	l := [][]Pair{
		nil, of("", ""), of("", "x"), of("a", ""), of("a", "1"), of("\x00", "\x00"), of("\xff", "\xff\xff"),
		of("", "", "\x00", "", "\x00\x00", ""), of("ab", "1", "abc", "2", "b", ""), of("a", "", "ab", "", "abc", "", "abcd", "", "b", "", "ba", ""),
		of("a\x00", "", "a\x01", "", "b", ""), of("a", "", "a\x00", "", "a\xff", "", "b", ""), of("abc", "1", "abd", "2", "ac", "3", "b", "4"),
		of("\x7f", "", "\x80", "", "\xff", "", "\xff\x00", "", "\xff\xff", ""), of("é", "é", "ê", "ê"), of("", written(of("a", "1")...), "a", written()),
	}
	for _, n := range []int{239, 240, 241, 242, 495, 496, 2286, 2287, 2288, 2289, 9000} {
		l = append(l, of(x(n), ""), of("k", x(n)), of("k", noise(n, int64(n)), "l", ""), of(x(n), "1", x(n)+"y", "2", x(n)+"z", "3", "y", "4"), of("x", "1", x(n), "2", x(n-1)+"y", x(n)))
	}
	for seed := range int64(300) {
		l = append(l, randomPairs(rand.New(rand.NewSource(seed)), 20))
	}
	return l
}

func TestB1Common(t *testing.T) {
	for _, c := range []struct {
		a, b string
		want int
	}{
		{"", "", 0}, {"", "a", 0}, {"a", "a", 1}, {"a", "b", 0}, {"ab", "b", 0}, {"abc", "abd", 2}, {"abc", "ab", 2}, {"abc", "xbc", 0}, {"abcd", "abxd", 2},
		{"\x00", "\x00\x00", 1}, {"a\x00b", "a\x00c", 2}, {"\xff", "\x7f", 0}, {"é", "ê", 1}, {"a", "A", 0}, {x(300), x(301), 300}, {x(300) + "a", x(300) + "b", 300},
	} {
		if n := Common(c.a, c.b); n != c.want {
			t.Errorf("Common(%.20q, %.20q): %d, not %d", c.a, c.b, n, c.want)
		}
		if n := Common(c.b, c.a); n != c.want {
			t.Errorf("Common(%.20q, %.20q): %d, not %d", c.b, c.a, n, c.want)
		}
	}
	for at := range 100 {
		for b := range 256 {
			if n := Common(x(100), x(at)+string([]byte{byte(b)})+x(99-at)); n != at && b != 'x' || b == 'x' && n != 100 {
				t.Fatalf("Common of two texts with %d at %d: %d", b, at, n)
			}
		}
	}
}

func build(t *testing.T, l []Pair, want string, wantE api.Errno) {
	t.Helper()
	if s, e := Build(l); s != want || e != wantE {
		t.Errorf("Build of %d pairs, %.60q: %.40q of %d bytes, %v, not %.40q of %d, %v", len(l), l, s, len(s), e, want, len(want), wantE)
	}
}

func TestB1Build(t *testing.T) {
	build(t, nil, "", api.OK)
	build(t, []Pair{}, "", api.OK)
	build(t, of("", ""), "\x00\x00\x00", api.OK)
	build(t, of("", "xy"), "\x00\x00\x02xy", api.OK)
	build(t, of("ab", "1", "abc", "2", "b", ""), "\x00\x02\x01ab1\x02\x01\x01c2\x00\x01\x00b", api.OK)
	build(t, of("", "1", "\x00", "22"), "\x00\x00\x011\x00\x01\x02\x0022", api.OK)
	build(t, of("abc", "", "abd", "", "b", ""), "\x00\x03\x00abc\x02\x01\x00d\x00\x01\x00b", api.OK)
	build(t, of("\x7f", "", "\x80", ""), "\x00\x01\x00\x7f\x00\x01\x00\x80", api.OK)
	// What a key has in common with those ahead of the previous one is not left out.
	build(t, of("aa", "", "ab", "", "abb", "", "b", "", "bab", ""), "\x00\x02\x00aa\x01\x01\x00b\x02\x01\x00b\x00\x01\x00b\x01\x02\x00ab", api.OK)
	build(t, of(x(241), x(2288), x(241)+"y", ""), "\x00\xf1\x01\xf9\x00\x00"+x(241+2288)+"\xf1\x01\x01\x00y", api.OK)
	for _, l := range someBlocks() {
		build(t, l, written(l...), api.OK)
	}
}

func TestB1BuildOfNotIncreasing(t *testing.T) {
	for _, l := range [][]Pair{
		of("b", "", "a", ""), of("a", "", "a", ""), of("", "", "", ""), of("a", "1", "a", "2"), of("a", "", "", ""), of("ab", "", "a", ""), of("abc", "", "abb", ""),
		of("\x00", "", "", ""), of("a\x00", "", "a", ""), of("\x80", "", "\x7f", ""), of("\xff", "", "\xfe\xff", ""), of("a", "", "B", ""),
		of("a", "", "b", "", "b", ""), of("a", "", "c", "", "b", ""), of("b", "", "a", "", "c", ""), of("a", "", "a", "", "b", ""), of("a", "", "c", "", "b", "", "d", ""),
		of(x(300), "", x(299), ""), of(x(300)+"b", "", x(300)+"a", ""),
	} {
		build(t, l, "", api.ErrArg)
	}
	many := make([]Pair, 500)
	for i := range many {
		many[i].Key = part(0, 0, uint64(i), "")
	}
	for i := range many[1:] {
		l := slices.Clone(many)
		l[i], l[i+1] = l[i+1], l[i]
		build(t, l, "", api.ErrArg)
		l[i] = l[i+1]
		build(t, l, "", api.ErrArg)
	}
}

// TestB1BuildOfLong goes up to 40000 bytes, and beyond, with what is one byte too much in each place.
func TestB1BuildOfLong(t *testing.T) {
	for i, l := range [][]Pair{
		of("", x(39995)), of("k", x(39994)), of(x(39995), ""), of(x(20000), x(19993)), of("a", "", "b", x(39990)), of("a", x(39990), "b", ""), of("a", x(20000), "b", x(19988)),
		of(x(39989), "", x(39990), ""), of(x(20000), "", x(20000)+"y", "v"+x(19986)), of("k", "", x(39991), ""),
	} {
		s := written(l...)
		if len(s) != 40000 {
			t.Fatalf("block %d has %d bytes", i, len(s))
		}
		build(t, l, s, api.OK)
		last := len(l) - 1
		longer := slices.Clone(l)
		longer[last].Value += "v"
		build(t, longer, "", api.ErrLong)
		longer = slices.Clone(l)
		longer[last].Key += "z"
		build(t, longer, "", api.ErrLong)
		longer = slices.Clone(l)
		longer[0].Value += "v"
		build(t, longer, "", api.ErrLong)
		build(t, append(slices.Clone(l), Pair{"z", ""}), "", api.ErrLong)
	}
	build(t, of("a", x(1<<24)), "", api.ErrLong)
	build(t, of(x(1<<24), "", x(1<<24)+"y", ""), "", api.ErrLong)
}

// TestB1BuildOfMany lays as many pairs as fit into a block, each of which has the whole key ahead of it and one byte more.
func TestB1BuildOfMany(t *testing.T) {
	l := of("", "")
	size, fit := 3, 1
	for n := range 8000 {
		l = append(l, Pair{x(n + 1), ""})
		if size += varint.Size(uint64(n)) + 3; size <= 40000 {
			fit++
		}
	}
	s := written(l[:fit]...)
	if len(s) < 39990 || len(s) > 40000 {
		t.Fatalf("%d pairs have %d bytes", fit, len(s))
	}
	build(t, l[:fit], s, api.OK)
	read(t, s, l[:fit], api.OK)
	build(t, l[:fit+1], "", api.ErrLong)
	build(t, l, "", api.ErrLong)
}

// TestB1BuildOfBoth: keys that are not increasing are what is told, however long what is ahead of them is.
func TestB1BuildOfBoth(t *testing.T) {
	build(t, of("a", x(40000), "b", "", "b", ""), "", api.ErrArg)
	build(t, of("b", x(40000), "a", ""), "", api.ErrArg)
	build(t, of("b", "", "a", x(40000)), "", api.ErrArg)
	build(t, of(x(50000), "", x(49999), ""), "", api.ErrArg)
	build(t, of("a", x(30000), "b", x(30000), "c", x(30000), "a", ""), "", api.ErrArg)
}

func read(t *testing.T, s string, want []Pair, wantE api.Errno) {
	t.Helper()
	if l, e := Read(s); !slices.Equal(l, want) || e != wantE {
		t.Errorf("Read(%.60q) of %d bytes: %.60q %v, not %.60q %v", s, len(s), l, e, want, wantE)
	}
}

// isNone tells that each call that reads finds no block.
func isNone(t *testing.T, s string) {
	t.Helper()
	read(t, s, nil, api.ErrForm)
	for _, key := range []string{"", "a", "ab", "b", "k", "zz"} {
		if v, ok, e := Find(s, key); v != "" || ok || e != api.ErrForm {
			t.Errorf("Find(%.60q, %q): %q %v %v", s, key, v, ok, e)
		}
		for _, to := range []string{"", "a", "b"} {
			if l, e := Between(s, key, to); len(l) != 0 || e != api.ErrForm {
				t.Errorf("Between(%.60q, %q, %q): %.60q %v", s, key, to, l, e)
			}
		}
	}
}

func TestB1Read(t *testing.T) {
	read(t, "", nil, api.OK)
	read(t, "\x00\x00\x00", of("", ""), api.OK)
	read(t, "\x00\x00\x01x", of("", "x"), api.OK)
	read(t, "\x00\x02\x01ab1\x02\x01\x01c2\x00\x01\x00b", of("ab", "1", "abc", "2", "b", ""), api.OK)
	read(t, "\x00\x00\x00\x00\x01\x00\x00", of("", "", "\x00", ""), api.OK)
	for _, l := range someBlocks() {
		read(t, written(l...), l, api.OK)
	}
	// What is longer than a frame's payload is the encoding of pairs nevertheless.
	for _, l := range [][]Pair{of("a", x(40000)), of("a", x(39990), "b", "x"), of(x(50000), "1", x(50000)+"y", "2", "y", x(70000))} {
		read(t, written(l...), l, api.OK)
	}
}

func TestB1ReadOfNone(t *testing.T) {
	for _, s := range []string{
		"\x00", "\x00\x00", "x", "\xf0", "\xf1", "\xff", "\x00\xf1", "\x00\x00\xf9\x00", // less than three numbers
		"\x00\x01\x00", "\x00\x00\x01", "\x00\x02\x00a", "\x00\x01\x01a", "\x00\x02\x01ab", "\x00\xf0\x00" + x(239), "\x00\x00\xf1\x01" + x(240), // bytes that are not there
		"\x00\x00\x00\x00", "\x00\x01\x00ab", "\x00\x00\x01ab", "\x00\x01\x00a\x00\x01", // what goes on behind a pair, and is none
		"\x01\x00\x00", "\x01\x01\x00a", "\x01\x00\x01a", // something in common with a key that is not there
		"\x00\x01\x00a\x02\x01\x00b", "\x00\x01\x00a\xf0\x01\x00b", "\x00\x00\x00\x01\x01\x00b", "\x00\x02\x00ab\x01\x01\x00c\x03\x01\x00d", // more in common than the key ahead has
		"\x00\x01\x00a\x00\x01\x00a", "\x00\x01\x00a\x01\x00\x00", "\x00\x00\x00\x00\x00\x00", "\x00\x01\x01a1\x01\x00\x012", // the same key twice
		"\x00\x01\x00b\x00\x01\x00a", "\x00\x02\x00ab\x01\x00\x00", "\x00\x02\x00ab\x00\x01\x00a", "\x00\x01\x00a\x00\x00\x00", "\x00\x02\x00bb\x01\x01\x00a", "\x00\x01\x00\x80\x00\x01\x00\x7f", // a lesser key
		"\x00\x01\x00a\x00\x02\x00ab", "\x00\x02\x00ab\x01\x02\x00bc", "\x00\x02\x00ab\x00\x02\x00ac", "\x00\x02\x00ab\x00\x03\x00abc", // less in common than the two have
		"\xf1\x00\x01\x00a", "\x00\xf1\x00\x00a", "\x00\x01\xf1\x00a", "\xfa\x00\x00\x00\x01\x00a", "\x00\xfa\x00\x00\x01\x00a", "\x00\x01\xfa\x00\x00\x01ab", // numbers in more bytes than they need
	} {
		isNone(t, s)
		for _, l := range [][]Pair{of("", ""), of("a", "1"), of("z", ""), of("abc", "1", "abd", "2")} {
			anyBlock(t, written(l...)+s)
		}
	}
}

// TestB1ReadOfGreatNumbers has lengths that no block has, also such that their sum is none.
func TestB1ReadOfGreatNumbers(t *testing.T) {
	for _, n := range []uint64{300, 1 << 16, 1<<31 - 1, 1 << 31, 1<<32 - 1, 1 << 32, 1<<32 + 1, 1<<63 - 2, 1<<63 - 1, 1 << 63, 1<<63 + 1, 1<<64 - 3, 1<<64 - 2, 1<<64 - 1} {
		for _, behind := range []string{"", "a", "ab", x(100)} {
			for _, ahead := range []string{"", written(of("a", "")...), written(of("", "1")...)} {
				for k := range uint64(4) {
					isNone(t, ahead+part(n, k, 0, behind))
					isNone(t, ahead+part(0, n, k, behind))
					isNone(t, ahead+part(0, k, n, behind))
					isNone(t, ahead+part(0, n, -n+k, behind))
					isNone(t, ahead+part(n, n, n, behind))
				}
			}
		}
	}
}

func TestB1ReadOfCut(t *testing.T) {
	for i, l := range someBlocks() {
		s := written(l...)
		for n := 1 + i%7; n < len(s); n += 1 + len(s)/50 {
			anyBlock(t, s[:n])
		}
		if s != "" {
			anyBlock(t, s[:len(s)-1])
			isNone(t, s+s)
		}
		isNone(t, s+"\x00")
		isNone(t, s+"\xff")
	}
	// Cut within a pair, what is left is none; cut behind one, it is the pairs ahead.
	l := of("ab", "1", "abc", "22", "b", "", "c", x(241))
	ends := map[int]int{}
	for n := range l {
		ends[len(written(l[:n]...))] = n
	}
	s := written(l...)
	for n := range len(s) {
		if many, ok := ends[n]; ok {
			read(t, s[:n], l[:many], api.OK)
		} else {
			isNone(t, s[:n])
		}
	}
}

// anyBlock holds what is read against what the bytes say, pair by pair.
func anyBlock(t *testing.T, s string) {
	t.Helper()
	want, ok := pairsIn(s)
	l, e := Read(s)
	if ok && (!slices.Equal(l, want) || e != api.OK) || !ok && (len(l) != 0 || e != api.ErrForm) {
		t.Fatalf("Read(%.60q) of %d bytes: %.60q %v, not %.60q %v", s, len(s), l, e, want, ok)
	}
}

// pairsIn takes pairs out of s in the plainest way, and then asks whether s is what they are written as.
func pairsIn(s string) ([]Pair, bool) {
	var l []Pair
	previous := ""
	for left := s; left != ""; {
		common, behind, ok1 := varint.Take(left)
		rest, behind, ok2 := varint.Take(behind)
		value, behind, ok3 := varint.Take(behind)
		if !ok1 || !ok2 || !ok3 || max(common, rest, value) > 1<<20 {
			return nil, false
		}
		if int(common) > len(previous) || int(rest+value) > len(behind) {
			return nil, false
		}
		p := Pair{previous[:common] + behind[:rest], behind[rest : rest+value]}
		if len(l) > 0 && p.Key <= previous {
			return nil, false
		}
		l, left, previous = append(l, p), behind[rest+value:], p.Key
	}
	return l, written(l...) == s
}

// TestB1ReadOfAny asks about every string of up to eight of some bytes, and about longer ones without a pattern.
func TestB1ReadOfAny(t *testing.T) {
	const alphabet = "\x00\x01\x02ab"
	blocks := 0
	for n, all := 0, 1; n <= 8; n, all = n+1, all*len(alphabet) {
		for i := range all {
			b := make([]byte, n)
			for k := range b {
				b[k], i = alphabet[i%len(alphabet)], i/len(alphabet)
			}
			anyBlock(t, string(b))
			if _, ok := pairsIn(string(b)); ok {
				blocks++
			}
		}
	}
	if blocks < 1000 {
		t.Errorf("only %d blocks among them", blocks)
	}
	for seed := range int64(100000) {
		b := []byte(noise(int(seed%40), seed))
		for k := range b {
			b[k] %= byte(2 + seed%5)
		}
		anyBlock(t, string(b))
	}
}

// TestB1ReadOfDamaged changes one byte of a block at a time: what is read is what the bytes say then.
func TestB1ReadOfDamaged(t *testing.T) {
	for _, l := range someBlocks() {
		s := written(l...)
		if len(s) > 300 {
			continue
		}
		for at := range s {
			for _, b := range []byte{0, 1, 2, 3, 4, s[at] - 1, s[at] + 1, 'a', 240, 241, 249, 255} {
				anyBlock(t, s[:at]+string([]byte{b})+s[at+1:])
			}
			anyBlock(t, s[:at]+s[at+1:])
			anyBlock(t, s[:at]+"\x00"+s[at:])
		}
	}
}

func TestB4ReadIsInverse(t *testing.T) {
	all := someBlocks()
	told := map[string]int{}
	for i, l := range all {
		s, e := Build(l)
		if e != api.OK {
			t.Fatalf("Build(%.60q): %v", l, e)
		}
		read(t, s, l, api.OK)
		got, _ := Read(s)
		build(t, got, s, api.OK)
		if other, ok := told[s]; ok && !slices.Equal(l, all[other]) {
			t.Errorf("%.60q and %.60q are both %.60q", l, all[other], s)
		}
		told[s] = i
	}
}

func TestP3BuildLeavesItsList(t *testing.T) {
	l := of("a", "1", "b", "2", "a", "beyond", "", x(40000))
	before := slices.Clone(l)
	build(t, l[:2], written(before[:2]...), api.OK)
	build(t, l[:3], "", api.ErrArg)
	if !slices.Equal(l, before) {
		t.Errorf("%.60q", l)
	}
}

func TestP3ReadIsNew(t *testing.T) {
	l := of("a", "1", "ab", "2", "b", "3")
	s := written(l...)
	for range 2 {
		got, _ := Read(s)
		some, _ := Between(s, "a", "b")
		clear(got[:cap(got)])
		clear(some[:cap(some)])
		read(t, s, l, api.OK)
	}
}
