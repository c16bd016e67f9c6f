package filter

import (
	"hash/fnv"
	"math"
	"math/big"
	"math/rand"
	"slices"
	"strconv"
	"strings"
	"testing"
)

func x(n int) string { return strings.Repeat("x", n) }

// noise is so many bytes of no pattern, the same ones each time.
func noise(n int, seed int64) string {
	b := make([]byte, n)
	rand.New(rand.NewSource(seed)).Read(b)
	return string(b)
}

// numbered are so many keys, each another one.
func numbered(n int, ahead string) []string {
	var keys []string
	for i := range n {
		keys = append(keys, ahead+strconv.Itoa(i))
	}
	return keys
}

// someKeys are short and long ones, of all bytes.
func someKeys() []string {
	l := []string{"", "a", "b", "ab", "ba", "aa", "key", "\x00", "\x00\x00", "\xff", "\xff\x00", "\x00\xff", "é", x(300), x(301), noise(70000, 1)}
	for b := range 256 {
		l = append(l, string([]byte{byte(b)}), "k"+string([]byte{byte(b), byte(255 - b)}))
	}
	for n := range 40 {
		l = append(l, noise(n, int64(n)))
	}
	slices.Sort(l)
	return slices.Compact(l)
}

// someBits are the numbers of bits at which a remainder may go wrong, and those that filters have.
func someBits() []int {
	l := []int{1, 2, 3, 4, 5, 7, 8, 63, 64, 65, 72, 88, 1000, 6000, math.MaxInt, math.MaxInt - 1, math.MaxInt - 7}
	for _, bit := range []int{8, 16, 31, 32, 33, 34, 35, 40, 62} {
		l = append(l, 1<<bit-1, 1<<bit, 1<<bit+1)
	}
	return l
}

// hashed is what I1 says of a key, in numbers without bounds.
func hashed(s string) *big.Int {
	h, _ := new(big.Int).SetString("14695981039346656037", 10)
	all := new(big.Int).Lsh(big.NewInt(1), 64)
	for _, b := range []byte(s) {
		h.Xor(h, big.NewInt(int64(b)))
		h.Mul(h, big.NewInt(1099511628211)).Mod(h, all)
	}
	return h.Xor(h, new(big.Int).Rsh(h, 33))
}

// placed is what I1 says of the bits of a key whose hash is h, in numbers without bounds.
func placed(h *big.Int, bits int) []int {
	high, low := new(big.Int).DivMod(h, big.NewInt(1<<32), new(big.Int))
	high.SetBit(high, 0, 1)
	var l []int
	for k := range int64(4) {
		n := new(big.Int).Mul(high, big.NewInt(k))
		l = append(l, int(n.Add(n, low).Mod(n, big.NewInt(int64(bits))).Int64()))
	}
	return l
}

// written is what I2 says of a filter: each of its bits is looked for among the places of all keys.
func written(keys ...string) string {
	if len(keys) == 0 {
		return ""
	}
	n := max(8, len(keys)+(len(keys)+1)/2)
	set := map[int]int{}
	for _, key := range keys {
		for _, place := range placed(hashed(key), 8*n) {
			set[place]++
		}
	}
	var b strings.Builder
	for i := range n {
		number := 0
		for bit := 7; bit >= 0; bit-- {
			number = 2*number + min(1, set[8*i+bit])
		}
		b.WriteByte(byte(number))
	}
	return b.String()
}

// isSet is the bit of a filter, found by halving its byte.
func isSet(filter string, bit int) bool {
	b := filter[bit/8]
	for range bit % 8 {
		b /= 2
	}
	return b%2 == 1
}

// without is a filter with one bit cleared.
func without(filter string, bit int) string {
	b := []byte(filter)
	b[bit/8] &^= 1 << (bit % 8)
	return string(b)
}

func build(t *testing.T, keys []string, want string) {
	t.Helper()
	if f := Build(keys); f != want {
		t.Errorf("Build(%.60q): %.60q, not %.60q", keys, f, want)
	}
}

func may(t *testing.T, filter, key string, want bool) {
	t.Helper()
	if ok := May(filter, key); ok != want {
		t.Errorf("May(%.60q, %.40q): %v", filter, key, ok)
	}
}

func full(t *testing.T, filter string, wantSet, wantAll int) {
	t.Helper()
	if set, all := Full(filter); set != wantSet || all != wantAll {
		t.Errorf("Full(%.60q): %d, %d, not %d, %d", filter, set, all, wantSet, wantAll)
	}
}

func TestI1Hash(t *testing.T) {
	for _, c := range []struct {
		s    string
		want uint64
	}{
		{"", 0xcbf29ce4e1db6d57},
		{"a", 0xaf63dc4cd1b002aa},
		{"b", 0xaf63df4cd1b01e03},
		{"ab", 0x089c4407b10bba69},
		{"key", 0x3dc94a1928bfb5e0},
		{"\x00", 0xaf63bd4cd1b06979},
		{"\x00\x00", 0x08328807b0f22bee},
		{"\xff", 0xaf64724cd1b0d248},
		{"\xff\x00", 0x0a99a607b3bad8e9},
		{"\x00\xff", 0x0831c907b0f2cfe3},
		{"é", 0x0ac21707b2791582},
		{x(1000), 0xe1add1d941e23a29},
	} {
		if h := Hash(c.s); h != c.want {
			t.Errorf("Hash(%.20q): %#x, not %#x", c.s, h, c.want)
		}
	}
}

func TestI1HashOfAll(t *testing.T) {
	for _, s := range someKeys() {
		if h := hashed(s); Hash(s) != h.Uint64() {
			t.Errorf("Hash(%.20q) of %d bytes: %#x, not %#x", s, len(s), Hash(s), h)
		}
	}
	for first := range 256 {
		for second := range 256 {
			s := []byte{byte(first), byte(second)}
			sum := fnv.New64a()
			sum.Write(s)
			if h := sum.Sum64(); Hash(string(s)) != h^h>>33 {
				t.Fatalf("Hash(%q): %#x", s, Hash(string(s)))
			}
		}
	}
}

func TestI1Places(t *testing.T) {
	for _, c := range []struct {
		s    string
		bits int
		want []int
	}{
		{"a", 1, []int{0, 0, 0, 0}},
		{"a", 64, []int{42, 55, 4, 17}},
		{"a", 72, []int{26, 15, 4, 65}},
		{"a", 7, []int{4, 4, 4, 4}},
		{"a", 1 << 40, []int{3517973162, 6460530423, 9403087684, 12345644945}},
		{"a", math.MaxInt, []int{3517973162, 6460530423, 9403087684, 12345644945}},
		{"ab", 64, []int{41, 48, 55, 62}},
		{"ab", 7, []int{5, 2, 6, 3}},
		{"ab", math.MaxInt, []int{2970335849, 3114794608, 3259253367, 3403712126}},
		{"", 64, []int{23, 60, 33, 6}},
		{"", 1 << 40, []int{3789253975, 7210928700, 10632603425, 14054278150}},
	} {
		if l := Places(c.s, c.bits); !slices.Equal(l, c.want) {
			t.Errorf("Places(%q, %d): %d, not %d", c.s, c.bits, l, c.want)
		}
	}
}

func TestI1PlacesOfAll(t *testing.T) {
	even, odd, all := 0, 0, someBits()
	for _, s := range someKeys() {
		h := hashed(s)
		// Both steps whose lowest bit is to be set and those that have it are among the keys.
		if h.Bit(32) == 0 {
			even++
		} else {
			odd++
		}
		for _, bits := range all {
			if l := Places(s, bits); !slices.Equal(l, placed(h, bits)) {
				t.Errorf("Places(%.20q, %d): %d, not %d", s, bits, l, placed(h, bits))
			}
		}
	}
	if even < 50 || odd < 50 {
		t.Errorf("%d and %d keys", even, odd)
	}
}

func TestI1PlacesOfNone(t *testing.T) {
	for _, s := range []string{"", "a", "\x00", x(300)} {
		for _, bits := range []int{0, -1, -2, -7, -8, -64, -1 << 32, math.MinInt + 1, math.MinInt} {
			if l := Places(s, bits); len(l) != 0 {
				t.Errorf("Places(%.20q, %d): %d", s, bits, l)
			}
		}
	}
}

func TestI2Build(t *testing.T) {
	build(t, nil, "")
	build(t, []string{}, "")
	build(t, []string{"a"}, "\x10\x00\x02\x00\x00\x04\x80\x00")
	build(t, []string{""}, "\x40\x00\x80\x00\x02\x00\x00\x10")
	build(t, []string{"a", "b"}, "\x18\x00\x03\x20\x00\x04\x80\x00")
	build(t, []string{"a", "b", "c", "d", "e"}, "\x19\x20\x33\x20\x46\xc4\x88\x18")
	build(t, []string{"a", "b", "c", "d", "e", "f"}, "\x50\x87\x80\x45\x90\x28\x48\x12\x22")
	// It is how many keys there are that counts, be they the same or not.
	build(t, slices.Repeat([]string{"a"}, 5), "\x10\x00\x02\x00\x00\x04\x80\x00")
	build(t, slices.Repeat([]string{"a"}, 6), "\x10\x80\x00\x04\x00\x00\x00\x00\x02")
	build(t, slices.Repeat([]string{"a"}, 7), "\x00\x10\x00\x00\x80\x00\x00\x00\x04\x02\x00")
}

func TestI2BuildSize(t *testing.T) {
	for n, want := range map[int]int{
		0: 0, 1: 8, 2: 8, 3: 8, 4: 8, 5: 8, 6: 9, 7: 11, 8: 12, 9: 14, 10: 15, 11: 17, 12: 18, 99: 149, 100: 150, 101: 152, 500: 750, 501: 752, 10001: 15002,
	} {
		for _, keys := range [][]string{numbered(n, ""), make([]string, n)} {
			if f := Build(keys); len(f) != want {
				t.Errorf("Build of %d keys: %d bytes", n, len(f))
			}
		}
	}
}

func TestI2BuildOfAll(t *testing.T) {
	for n := range 120 {
		keys := numbered(n, "key")
		build(t, keys, written(keys...))
	}
	all := someKeys()
	for _, s := range all {
		build(t, []string{s}, written(s))
	}
	for seed := range int64(200) {
		r := rand.New(rand.NewSource(seed))
		var keys []string
		for range r.Intn(60) {
			keys = append(keys, all[r.Intn(len(all))])
		}
		build(t, keys, written(keys...))
		r.Shuffle(len(keys), func(i, k int) { keys[i], keys[k] = keys[k], keys[i] })
		build(t, keys, written(keys...))
	}
	build(t, all, written(all...))
	many := numbered(4000, "many")
	build(t, many, written(many...))
}

func TestI3May(t *testing.T) {
	f := Build([]string{"a", "b"})
	may(t, f, "a", true)
	may(t, f, "b", true)
	may(t, f, "", false)
	may(t, f, "ab", false)
	may(t, f, "A", false)
	// One byte: of all its bits, and of none.
	for _, key := range someKeys() {
		may(t, "\xff", key, true)
		may(t, "\x00", key, false)
		may(t, strings.Repeat("\xff", 1000), key, true)
		may(t, strings.Repeat("\x00", 1000), key, false)
	}
}

func TestI3MayOfEmpty(t *testing.T) {
	for _, key := range someKeys() {
		may(t, "", key, false)
	}
	may(t, Build(nil), "", false)
}

// TestI3MayOfAny asks filters of every length that no Build made, about keys of which some, all and none of the bits are set.
func TestI3MayOfAny(t *testing.T) {
	yes, no := 0, 0
	for i, key := range someKeys() {
		h := hashed(key)
		for n := 1; n < 40; n++ {
			b := []byte(noise(n, int64(i+n)))
			// Two of three are fuller, since else hardly one would have all bits of a key.
			for k, more := range []byte(noise(n, int64(i))) {
				if i%3 != 0 {
					b[k] |= more
				}
			}
			want := true
			for _, place := range placed(h, 8*n) {
				want = want && isSet(string(b), place)
			}
			if want {
				yes++
			} else {
				no++
			}
			may(t, string(b), key, want)
		}
	}
	if yes < 500 || no < 500 {
		t.Errorf("%d true, %d false", yes, no)
	}
}

func TestI3MayOfEachByte(t *testing.T) {
	for _, key := range []string{"", "a", "b", "ab", "\xff", "é", x(300)} {
		l := placed(hashed(key), 8)
		for b := range 256 {
			f := string([]byte{byte(b)})
			may(t, f, key, !slices.ContainsFunc(l, func(place int) bool { return !isSet(f, place) }))
		}
	}
}

// TestI3MayOfOneLess clears one bit after the other: only those of the key count, and each of them does.
func TestI3MayOfOneLess(t *testing.T) {
	for _, key := range someKeys() {
		for _, n := range []int{1, 8, 9, 150} {
			l, whole := placed(hashed(key), 8*n), strings.Repeat("\xff", n)
			for bit := range 8 * n {
				may(t, without(whole, bit), key, !slices.Contains(l, bit))
			}
		}
	}
}

func TestI3Full(t *testing.T) {
	full(t, "", 0, 0)
	full(t, "\x00", 0, 8)
	full(t, "\x07", 3, 8)
	full(t, "\xff\x80", 9, 16)
	full(t, "\x80\x00\x00\x01", 2, 32)
	full(t, strings.Repeat("\xff", 5000), 40000, 40000)
	full(t, strings.Repeat("\x00", 5000), 0, 40000)
	full(t, "é", 4+4, 16)
	for first := range 256 {
		for second := range 256 {
			f := string([]byte{byte(first), byte(second)})
			full(t, f, strings.Count(strconv.FormatInt(int64(first*256+second), 2), "1"), 16)
		}
	}
}

func TestI3FullOfAll(t *testing.T) {
	for n := range 200 {
		f, set := noise(n, int64(n)), 0
		for bit := range 8 * n {
			if isSet(f, bit) {
				set++
			}
		}
		full(t, f, set, 8*n)
	}
	full(t, Build([]string{"a"}), 4, 64)
	full(t, Build([]string{"a", "b"}), 7, 64)
	full(t, Build(slices.Repeat([]string{"a"}, 7)), 4, 88)
}

func TestI4MayOfBuilt(t *testing.T) {
	for n := 1; n < 300; n++ {
		for _, ahead := range []string{"", "key", "\x00", x(100)} {
			keys := numbered(n, ahead)
			f := Build(keys)
			for _, key := range keys {
				may(t, f, key, true)
			}
		}
	}
	all := someKeys()
	f := Build(all)
	for _, key := range all {
		may(t, f, key, true)
		may(t, Build([]string{key}), key, true)
		may(t, Build([]string{"other", key, key}), key, true)
	}
}

// TestI4MayOfOthers: of keys that are not there, few may be.
func TestI4MayOfOthers(t *testing.T) {
	for _, n := range []int{1, 5, 6, 60, 500, 5000} {
		f, wrong := Build(numbered(n, "key")), 0
		for _, key := range numbered(2000, "other") {
			if May(f, key) {
				wrong++
			}
		}
		if wrong > 200 {
			t.Errorf("%d of 2000 keys may be among %d others", wrong, n)
		}
	}
}

func TestI4MoreKeys(t *testing.T) {
	for seed := range 500 {
		keys := numbered(5, strconv.Itoa(seed))
		for n := 1; n < 5; n++ {
			fewer, more := Build(keys[:n]), Build(keys[:n+1])
			if len(fewer) != 8 || len(more) != 8 {
				t.Fatalf("%d and %d bytes", len(fewer), len(more))
			}
			set, _ := Full(fewer)
			if now, _ := Full(more); now < set || now > set+4 {
				t.Errorf("Full of %d keys: %d, of one more: %d", n, set, now)
			}
			for bit := range 64 {
				if isSet(fewer, bit) && !isSet(more, bit) {
					t.Errorf("bit %d of %.40q, not of %.40q", bit, keys[:n], keys[:n+1])
				}
			}
		}
	}
}

func TestP1AnySize(t *testing.T) {
	long := noise(1<<22, 3)
	for _, s := range []string{"", "a", long} {
		for _, f := range []string{"", "\x00", "\xff", long} {
			May(f, s)
			if set, all := Full(f); set < 0 || set > all {
				t.Errorf("Full of %d bytes: %d, %d", len(f), set, all)
			}
		}
		may(t, Build([]string{s}), s, true)
	}
	if f := Build(make([]string, 1<<20)); len(f) != 1<<20+1<<19 {
		t.Errorf("%d bytes", len(f))
	}
}

func TestP3BuildWritesNothing(t *testing.T) {
	keys := numbered(40, "key")
	before := slices.Clone(keys)
	f := Build(keys[:20])
	if !slices.Equal(keys, before) {
		t.Errorf("%q", keys)
	}
	clear(keys)
	if f != written(before[:20]...) {
		t.Errorf("%q", f)
	}
}

func TestP3PlacesAreNew(t *testing.T) {
	l := Places("a", 64)
	clear(l[:cap(l)])
	if m := Places("a", 64); !slices.Equal(m, []int{42, 55, 4, 17}) {
		t.Errorf("%d", m)
	}
}

func TestP4TheSameEachTime(t *testing.T) {
	keys := someKeys()
	for range 3 {
		build(t, keys, written(keys...))
		for _, key := range keys[:40] {
			may(t, Build(keys[:20]), key, May(written(keys[:20]...), key))
			if Hash(key) != hashed(key).Uint64() {
				t.Errorf("Hash(%q): %#x", key, Hash(key))
			}
		}
	}
}
