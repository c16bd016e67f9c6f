package block

import (
	"math/rand"
	"slices"
	"strings"
	"testing"

	"moult/api"
)

func find(t *testing.T, s, key, want string, wantOK bool, wantE api.Errno) {
	t.Helper()
	if v, ok, e := Find(s, key); v != want || ok != wantOK || e != wantE {
		t.Errorf("Find(%.60q, %.40q): %.40q %v %v, not %.40q %v %v", s, key, v, ok, e, want, wantOK, wantE)
	}
}

func between(t *testing.T, s, from, to string, want []Pair, wantE api.Errno) {
	t.Helper()
	if l, e := Between(s, from, to); !slices.Equal(l, want) || e != wantE {
		t.Errorf("Between(%.60q, %.40q, %.40q): %.60q %v, not %.60q %v", s, from, to, l, e, want, wantE)
	}
}

// keysAbout are the keys of pairs, and what is little less and little greater than each of them.
func keysAbout(l []Pair) []string {
	keys := []string{"", "\x00", "a", "k", "\xff", "\xff\xff\xff\xff"}
	for _, p := range l {
		keys = append(keys, p.Key, p.Key+"\x00", p.Key+"\xff")
		if n := len(p.Key); n > 0 {
			b := []byte(p.Key)
			b[n-1]--
			keys = append(keys, p.Key[:n-1], string(b), string(b)+"\xff")
		}
	}
	slices.Sort(keys)
	return slices.Compact(keys)
}

func TestB2Find(t *testing.T) {
	s := written(of("ab", "1", "abc", "2", "b", "", "ba", "4")...)
	for key, value := range map[string]string{"ab": "1", "abc": "2", "b": "", "ba": "4"} {
		find(t, s, key, value, true, api.OK)
	}
	for _, key := range []string{"", "a", "aa", "aba", "abb", "abd", "abcd", "ac", "b\x00", "bb", "c", "\x00", "\xff", "AB", "1", s} {
		find(t, s, key, "", false, api.OK)
	}
	find(t, "", "", "", false, api.OK)
	find(t, "", "a", "", false, api.OK)
	find(t, "\x00\x00\x00", "", "", true, api.OK)
	find(t, "\x00\x00\x00", "a", "", false, api.OK)
	find(t, "\x00\x00\x01v", "", "v", true, api.OK)
	find(t, "\x00\x01\x01av", "", "", false, api.OK)
}

func TestB2FindOfAll(t *testing.T) {
	for _, l := range someBlocks() {
		s := written(l...)
		for _, key := range keysAbout(l) {
			at := slices.IndexFunc(l, func(p Pair) bool { return p.Key == key })
			if at < 0 {
				find(t, s, key, "", false, api.OK)
			} else {
				find(t, s, key, l[at].Value, true, api.OK)
			}
		}
	}
}

func TestB2Between(t *testing.T) {
	l := of("ab", "1", "abc", "2", "b", "", "ba", "4")
	s := written(l...)
	for _, c := range []struct {
		from, to string
		want     []Pair
	}{
		{"", "", l}, {"ab", "", l}, {"aa", "", l}, {"ab\x00", "", l[1:]}, {"abc", "", l[1:]}, {"ba", "", l[3:]}, {"bb", "", nil},
		{"", "ab", nil}, {"", "ab\x00", l[:1]}, {"", "abc", l[:1]}, {"", "b", l[:2]}, {"", "ba", l[:3]}, {"", "bb", l}, {"", "\x00", nil}, {"", "\xff", l},
		{"ab", "b", l[:2]}, {"abc", "ba", l[1:3]}, {"b", "b\x00", l[2:3]}, {"ac", "az", nil},
		{"ab", "ab", nil}, {"b", "b", nil}, {"b", "ab", nil}, {"c", "a", nil}, {"\xff", "", nil},
	} {
		between(t, s, c.from, c.to, c.want, api.OK)
	}
	between(t, "", "", "", nil, api.OK)
	between(t, "", "a", "b", nil, api.OK)
	between(t, "\x00\x00\x01v", "", "", of("", "v"), api.OK)
	between(t, "\x00\x00\x01v", "", "\x00", of("", "v"), api.OK)
	between(t, "\x00\x00\x01v", "\x00", "", nil, api.OK)
}

func TestB2BetweenOfAll(t *testing.T) {
	for i, l := range someBlocks() {
		s, keys := written(l...), keysAbout(l)
		for k, from := range keys {
			for n := (i + k) % 5; n < len(keys); n += 5 {
				want := slices.Clone(l)
				want = slices.DeleteFunc(want, func(p Pair) bool { return p.Key < from || keys[n] != "" && p.Key >= keys[n] })
				between(t, s, from, keys[n], want, api.OK)
			}
			want := slices.DeleteFunc(slices.Clone(l), func(p Pair) bool { return p.Key < from })
			between(t, s, from, "", want, api.OK)
		}
	}
}

// TestB2OfNone: what is behind the pair that is asked for may show that there is no block, and what is asked for is ahead of that or not there at all.
func TestB2OfNone(t *testing.T) {
	whole := written(of("a", "1", "b", "2", "c", "3")...)
	for _, s := range []string{whole + "\x00", whole[:len(whole)-1], whole + "\x00\x01\x00c", whole + "\x00\x01\x00b", whole + "\x01\x00\x00", whole + "\xff", whole + "\x00\x02\x00cd"} {
		for _, key := range []string{"", "a", "b", "c", "d"} {
			find(t, s, key, "", false, api.ErrForm)
			between(t, s, key, "", nil, api.ErrForm)
			between(t, s, key, key, nil, api.ErrForm)
			between(t, s, "", key, nil, api.ErrForm)
		}
		between(t, s, "d", "a", nil, api.ErrForm)
	}
}

// TestP1FindAmongMany: a block may tell of far more bytes of keys than it has.
func TestP1FindAmongMany(t *testing.T) {
	const size, many = 50000, 20000
	var b strings.Builder
	b.WriteString(part(0, size, 0, x(size)))
	key := func(n int) string { return x(size) + "y" + string([]byte{byte(n >> 8), byte(n)}) }
	previous := x(size)
	for n := range many {
		k := key(n)
		common := uint64(len(previous))
		for previous[:common] != k[:common] {
			common--
		}
		b.WriteString(part(common, uint64(len(k))-common, 1, k[common:]+"v"))
		previous = k
	}
	s := b.String()
	find(t, s, key(many-1), "v", true, api.OK)
	find(t, s, "a", "", false, api.OK)
	between(t, s, key(300), key(302), of(key(300), "v", key(301), "v"), api.OK)
	between(t, s, key(many), "", nil, api.OK)
	find(t, s+"\x00", key(1), "", false, api.ErrForm)
}

func split(t *testing.T, l []Pair, most int, want ...[]Pair) {
	t.Helper()
	if rows := Split(l, most); !slices.EqualFunc(rows, want, slices.Equal) {
		t.Errorf("Split(%.60q, %d): %.60q, not %.60q", l, most, rows, want)
	}
}

func TestB3Split(t *testing.T) {
	l := of("a", "11", "b", "", "c", "2222", "d", "")
	each := [][]Pair{l[:1], l[1:2], l[2:3], l[3:]}
	for _, most := range []int{-1 << 63, -5, -1, 0, 1} {
		split(t, l, most, each...)
	}
	split(t, l, 2, l[:1], l[1:3], l[3:])
	split(t, l, 3, l[:1], l[1:3], l[3:])
	split(t, l, 4, l[:2], l[2:3], l[3:])
	split(t, l, 5, l[:3], l[3:])
	split(t, l, 9, l[:3], l[3:])
	split(t, l, 10, l)
	split(t, l, 11, l)
	split(t, l, 1<<63-1, l)
	for _, most := range []int{-1, 0, 1, 600} {
		split(t, nil, most)
		split(t, []Pair{}, most)
		split(t, of("a", ""), most, of("a", ""))
	}
	// Keys and values count alike, and what has no bytes counts nothing.
	split(t, of("aaa", "", "", "bbb", "", "", "c", "dd"), 3, of("aaa", ""), of("", "bbb"), of("", "", "c", "dd"))
	split(t, of("", "", "", "", "", ""), 1, of("", "", "", "", "", ""))
	split(t, of("", "", "", "", "", ""), 0, of("", ""), of("", ""), of("", ""))
	// Neither the order of the keys nor their length is of any account.
	split(t, of("b", "1", "a", "2", "a", "2"), 3, of("b", "1", "a", "2"), of("a", "2"))
	split(t, of("a", x(50000), "b", ""), 600, of("a", x(50000)), of("b", ""))
}

// TestB4SplitOfAll: the rows are the pairs again, and each but the last has just enough.
func TestB4SplitOfAll(t *testing.T) {
	r := rand.New(rand.NewSource(1))
	for _, l := range someBlocks() {
		for _, most := range []int{-3, 0, 1, 2, 3, 10, 100, 600, 40000, r.Intn(50), r.Intn(2000)} {
			rows := Split(l, most)
			if !slices.Equal(slices.Concat(rows...), l) {
				t.Fatalf("Split(%.60q, %d): %.60q", l, most, rows)
			}
			for i, row := range rows {
				enough, less := total(row) >= most, len(row) == 1 || total(row[:max(len(row)-1, 0)]) < most
				if len(row) == 0 || !less || !enough && i < len(rows)-1 {
					t.Fatalf("Split(%.60q, %d): row %d is %.60q", l, most, i, row)
				}
			}
		}
	}
}

func total(l []Pair) int {
	n := 0
	for _, p := range l {
		n += len(p.Key) + len(p.Value)
	}
	return n
}

// TestP3SplitIsNew writes to each row and behind its end: neither the pairs nor another row show it.
func TestP3SplitIsNew(t *testing.T) {
	var l []Pair
	for n := range 40 {
		l = append(l, Pair{string([]byte{byte(n)}), "v"})
	}
	before, many := slices.Clone(l), 37
	for most := range 80 {
		want := Split(before[:many], most)
		rows := Split(l[:many], most)
		for i, row := range rows {
			clear(row[:cap(row)])
			if !slices.EqualFunc(rows[i+1:], want[i+1:], slices.Equal) {
				t.Fatalf("Split by %d: what is written to row %d shows in those behind it", most, i)
			}
		}
		clear(rows[:cap(rows)])
		if !slices.Equal(l, before) {
			t.Fatalf("Split by %d shares with what it was given: %q", most, l)
		}
		split(t, l[:many], most, want...)
	}
}

func TestP3SplitKeepsNothing(t *testing.T) {
	l := of("a", "1", "b", "2", "c", "3")
	rows := Split(l, 4)
	clear(l)
	if !slices.EqualFunc(rows, [][]Pair{of("a", "1", "b", "2"), of("c", "3")}, slices.Equal) {
		t.Errorf("%q", rows)
	}
}

func TestP4TheSameEachTime(t *testing.T) {
	l := randomPairs(rand.New(rand.NewSource(7)), 20)
	s := written(l...)
	for range 3 {
		build(t, l, s, api.OK)
		read(t, s, l, api.OK)
		isNone(t, s+"\x00")
		find(t, s, l[len(l)-1].Key, l[len(l)-1].Value, true, api.OK)
	}
}
