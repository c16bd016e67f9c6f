package memory

import (
	"cmp"
	"math"
	"math/rand"
	"slices"
	"strconv"
	"strings"
	"testing"

	"moult/api"
	"moult/table"
	"moult/varint"
)

func x(n int) string { return strings.Repeat("x", n) }

func live(key string, seq int, data string) api.Entry {
	return api.Entry{Key: key, Seq: seq, Data: data}
}

func dead(key string, seq int) api.Entry {
	return api.Entry{Key: key, Seq: seq, Dead: true}
}

// citing are data that cite a table and a version, whatever numbers they have.
func citing(table, version uint64, behind string) string {
	return varint.Put(table) + varint.Put(version) + behind
}

func add(t *testing.T, m *Memory, e api.Entry, want api.Errno) {
	t.Helper()
	if got := m.Add(e); got != want {
		t.Errorf("Add of key %.20q of %d bytes, seq %d, dead %v, data %.20q of %d bytes: %v, not %v", e.Key, len(e.Key), e.Seq, e.Dead, e.Data, len(e.Data), got, want)
	}
}

func get(t *testing.T, m *Memory, key string, at int, want api.Entry, wantOK bool) {
	t.Helper()
	if e, ok := m.Get(key, at); e != want || ok != wantOK {
		t.Errorf("Get(%.20q, %d): %.20q %d %v, %v, not %.20q %d, %v", key, at, e.Key, e.Seq, e.Dead, ok, want.Key, want.Seq, wantOK)
	}
}

func between(t *testing.T, m *Memory, from, to string, want []api.Entry) {
	t.Helper()
	if l := m.Between(from, to); !slices.Equal(l, want) {
		t.Errorf("Between(%.20q, %.20q): %d entries, not %d", from, to, len(l), len(want))
	}
}

// holds asks for everything that a memory has; the entries are in order.
func holds(t *testing.T, m *Memory, l []api.Entry) {
	t.Helper()
	between(t, m, "", "", l)
	size := 0
	for _, e := range l {
		size += len(e.Key) + len(e.Data)
		get(t, m, e.Key, e.Seq, e, true)
	}
	if m.Len() != len(l) || m.Size() != size {
		t.Errorf("Len %d, Size %d, not %d, %d", m.Len(), m.Size(), len(l), size)
	}
	if got := m.Cites(); !slices.Equal(got, citesOf(l)) {
		t.Errorf("Cites: %v, not %v", got, citesOf(l))
	}
}

// citesOf counts what is cited as the chapter's words say.
func citesOf(l []api.Entry) []api.Cite {
	rows := map[[2]uint64]int{}
	for _, e := range l {
		if number, rest, ok := varint.Take(e.Data); ok && !e.Dead {
			version, _, _ := varint.Take(rest)
			rows[[2]uint64{number, version}]++
		}
	}
	var cites []api.Cite
	for c, n := range rows {
		cites = append(cites, api.Cite{Table: int(c[0]), Version: int(c[1]), Rows: n})
	}
	slices.SortFunc(cites, func(a, b api.Cite) int {
		return cmp.Or(cmp.Compare(a.Table, b.Table), cmp.Compare(a.Version, b.Version))
	})
	return cites
}

func inOrder(l []api.Entry) []api.Entry {
	sorted := slices.Clone(l)
	slices.SortFunc(sorted, func(a, b api.Entry) int {
		return cmp.Or(strings.Compare(a.Key, b.Key), cmp.Compare(b.Seq, a.Seq))
	})
	return sorted
}

// of is the memory of entries, of which no two may have the same key and seq.
func of(t *testing.T, l []api.Entry) *Memory {
	t.Helper()
	m := New()
	for _, e := range l {
		add(t, m, e, api.OK)
	}
	return m
}

// randomEntries are entries of few keys and seqs, some of them greatest ones, each key and seq once, in no order.
func randomEntries(r *rand.Rand, n int) []api.Entry {
	keys := []string{"", "\x00", "\x00\x00", "\x00\xff", "\x01", "a", "a\x00", "a\x00b", "a\xff", "aa", "ab", "b", "é", "\xfe", "\xff", "\xff\xff", x(1200)}
	type place struct {
		key string
		seq int
	}
	there := map[place]bool{}
	var l []api.Entry
	for range n {
		p := place{keys[r.Intn(len(keys))], []int{1 + r.Intn(9), 1 << 40, 1<<40 - 1 - r.Intn(9)}[r.Intn(3)]}
		if there[p] {
			continue
		}
		there[p] = true
		if r.Intn(4) == 0 {
			l = append(l, dead(p.key, p.seq))
		} else {
			l = append(l, live(p.key, p.seq, citing(uint64(r.Intn(4)), []uint64{0, 1, 2, 300, 1000000}[r.Intn(5)], x(r.Intn(9)))))
		}
	}
	return l
}

// keysAbout are the keys of entries, and what is little less and little greater than each of them.
func keysAbout(l []api.Entry) []string {
	names := []string{"", "\x00", "k", "\xff", "\xff\xff\xff\xff", x(3000)}
	for _, e := range l {
		names = append(names, e.Key, e.Key+"\x00", e.Key+"\xff")
		if n := len(e.Key); n > 0 {
			b := []byte(e.Key)
			b[n-1]--
			names = append(names, e.Key[:n-1], string(b), string(b)+"\xff")
		}
	}
	slices.Sort(names)
	return slices.Compact(names)
}

// seqsAbout are the seqs of a key's entries, and those next to them.
func seqsAbout(l []api.Entry, key string) []int {
	seqs := []int{math.MinInt, -1, 0, 1, 1 << 40, 1<<40 + 1, math.MaxInt - 1, math.MaxInt}
	for _, e := range l {
		if e.Key == key {
			seqs = append(seqs, e.Seq-1, e.Seq, e.Seq+1)
		}
	}
	return seqs
}

func TestM1New(t *testing.T) {
	m := New()
	holds(t, m, nil)
	for _, key := range []string{"", "\x00", "a", "\xff", x(2000)} {
		for _, at := range []int{math.MinInt, -1, 0, 1, 9, 1 << 40, math.MaxInt} {
			get(t, m, key, at, api.Entry{}, false)
		}
		between(t, m, key, "", nil)
		between(t, m, "", key, nil)
		between(t, m, key, "a", nil)
	}
	add(t, m, live("a", 1, "\x01\x02"), api.OK)
	holds(t, New(), nil)
}

// TestDocument is the chapter's example.
func TestDocument(t *testing.T) {
	b1, a2, a5 := live("b", 1, "\x01\x02"), live("a", 2, "\x01\x02"), live("a", 5, "\x01\x02")
	m := New()
	add(t, m, b1, api.OK)
	add(t, m, a2, api.OK)
	add(t, m, a5, api.OK)
	add(t, m, a2, api.ErrThere)
	if m.Len() != 3 {
		t.Error(m.Len())
	}
	get(t, m, "a", 4, a2, true)
	get(t, m, "a", 1, api.Entry{}, false)
	between(t, m, "", "", []api.Entry{a5, a2, b1})
}

func TestM1Add(t *testing.T) {
	m := New()
	var l []api.Entry
	for _, e := range []api.Entry{live("", 1, "\x00\x00"), dead("", 2), live("k", 1, "\x01\x02"), dead("k", 1<<40), live("k", 1<<40-1, "\x01\x02r"), dead(x(1200), 1), live(x(1200), 1<<40, "\x01\x02"+x(24998)), live("m", 7, citing(1000000, 1000000, "")), dead(strings.Repeat("é", 600), 3), live(strings.Repeat("\x00", 1200), 4, "\x00\x00\x00")} {
		add(t, m, e, api.OK)
		l = append(l, e)
		holds(t, m, inOrder(l))
	}
}

// TestM1AddOfWrong: what is not valid is not added, whether there is one with its key and seq or not.
func TestM1AddOfWrong(t *testing.T) {
	data := "\x01\x02"
	wrong := []api.Entry{{}, {Key: "k", Seq: 1}, {Key: "k", Seq: 5}, {Key: "k", Seq: 5, Dead: true, Data: data}, {Key: "k", Seq: 4, Dead: true, Data: "r"}}
	for _, n := range []int{1201, 2400, 1 << 20} {
		wrong = append(wrong, live(x(n), 1, data), dead(x(n), 1))
	}
	wrong = append(wrong, dead(strings.Repeat("é", 601), 1), dead(strings.Repeat("\x00", 1201), 1))
	for _, seq := range []int{0, -1, -5, math.MinInt, 1<<40 + 1, 1 << 41, math.MaxInt} {
		wrong = append(wrong, live("k", seq, data), dead("k", seq), live("", seq, data))
	}
	for _, s := range []string{"\x01", "\xff", "\x01\xf1", citing(1000001, 1, ""), citing(1, 1000001, "r"), data + x(24999), data + x(1<<20)} {
		wrong = append(wrong, live("k", 5, s), live("l", 1, s))
	}
	l := []api.Entry{live("k", 5, data)}
	for _, m := range []*Memory{New(), of(t, l)} {
		before := m.Between("", "")
		for _, e := range wrong {
			add(t, m, e, api.ErrArg)
			holds(t, m, before)
		}
	}
}

// TestM1AddOfThere: an entry with the key and seq of another one changes nothing, however it differs from it otherwise.
func TestM1AddOfThere(t *testing.T) {
	l := inOrder(append(randomEntries(rand.New(rand.NewSource(1)), 60), dead("q", 3), live("q", 2, "\x01\x02"), live("q", 1<<40, "\x01\x02r")))
	m := of(t, l)
	for _, e := range l {
		for _, other := range []api.Entry{e, dead(e.Key, e.Seq), live(e.Key, e.Seq, "\x00\x00"), live(e.Key, e.Seq, "\x03\x04"+x(99))} {
			add(t, m, other, api.ErrThere)
		}
	}
	holds(t, m, l)
	// One of the two is another one: the key, or the seq.
	add(t, m, dead("q", 4), api.OK)
	add(t, m, dead("q", 1), api.OK)
	add(t, m, dead("q\x00", 3), api.OK)
	add(t, m, dead("p", 3), api.OK)
	holds(t, m, inOrder(append(l, dead("q", 4), dead("q", 1), dead("q\x00", 3), dead("p", 3))))
}

func TestM1LenAndSize(t *testing.T) {
	m := New()
	for _, c := range []struct {
		e         api.Entry
		want      api.Errno
		len, size int
	}{
		{dead("", 1), api.OK, 1, 0},
		{dead("abc", 1), api.OK, 2, 3},
		{dead("abc", 2), api.OK, 3, 6},
		{live("abc", 3, "\x01\x02"), api.OK, 4, 11},
		{live("abc", 3, "\x01\x02r"), api.ErrThere, 4, 11},
		{live("abc", 0, "\x01\x02r"), api.ErrArg, 4, 11},
		{live("é", 3, "\x01\x02é\x00"), api.OK, 5, 18},
		{live("\x00", 3, "\x01\x02"), api.OK, 6, 21},
		{live(x(1200), 1<<40, "\x01\x02"+x(24998)), api.OK, 7, 26221},
		{live(x(1200), 1<<40, "\x01\x02"+x(24999)), api.ErrArg, 7, 26221},
		{live("", 2, "\x00\x00"), api.OK, 8, 26223},
	} {
		add(t, m, c.e, c.want)
		if m.Len() != c.len || m.Size() != c.size {
			t.Errorf("Len %d, Size %d, not %d, %d", m.Len(), m.Size(), c.len, c.size)
		}
	}
}

func TestM2Get(t *testing.T) {
	l := []api.Entry{live("a", 9, "\x01\x01"), dead("a", 5), live("a", 2, "\x01\x02"), dead("b", 1), live("c", 1<<40, "\x01\x03")}
	m := of(t, []api.Entry{l[2], l[4], l[0], l[3], l[1]})
	get(t, m, "a", 10, l[0], true)
	get(t, m, "a", 9, l[0], true)
	get(t, m, "a", 8, l[1], true)
	get(t, m, "a", 5, l[1], true)
	get(t, m, "a", 4, l[2], true)
	get(t, m, "a", 2, l[2], true)
	get(t, m, "a", 1, api.Entry{}, false)
	get(t, m, "a", 0, api.Entry{}, false)
	get(t, m, "a", -1, api.Entry{}, false)
	get(t, m, "a", math.MinInt, api.Entry{}, false)
	get(t, m, "a", math.MaxInt, l[0], true)
	get(t, m, "b", 1, l[3], true)
	get(t, m, "b", 0, api.Entry{}, false)
	get(t, m, "c", 1<<40, l[4], true)
	get(t, m, "c", 1<<40-1, api.Entry{}, false)
	for _, key := range []string{"", "\x00", "A", "a\x00", "aa", "ab", "b\x00", "bb", "c\x00", "d", "\xff", x(2000)} {
		get(t, m, key, math.MaxInt, api.Entry{}, false)
	}
}

// TestM2GetOfAll asks for each key, and those next to it, at each seq, and those next to it.
func TestM2GetOfAll(t *testing.T) {
	for seed := range 20 {
		l := randomEntries(rand.New(rand.NewSource(int64(seed))), 4*seed)
		m := of(t, l)
		for _, key := range keysAbout(l) {
			for _, at := range seqsAbout(l, key) {
				want, ok := api.Entry{}, false
				for _, e := range l {
					if e.Key == key && e.Seq <= at && e.Seq > want.Seq {
						want, ok = e, true
					}
				}
				get(t, m, key, at, want, ok)
			}
		}
	}
}

func TestM2Between(t *testing.T) {
	l := []api.Entry{live("a", 9, "\x01\x01"), dead("a", 5), live("a\x00", 2, "\x01\x02"), dead("b", 1), live("c", 3, "\x01\x03")}
	m := of(t, []api.Entry{l[3], l[1], l[4], l[0], l[2]})
	between(t, m, "", "", l)
	between(t, m, "a", "", l)
	between(t, m, "a", "c\x00", l)
	between(t, m, "a", "c", l[:4])
	between(t, m, "a", "b", l[:3])
	between(t, m, "a", "a\x00", l[:2])
	between(t, m, "", "a", nil)
	between(t, m, "a", "a", nil)
	between(t, m, "a\x00", "b\x00", l[2:4])
	between(t, m, "aa", "bb", l[3:4])
	between(t, m, "aa", "b", nil)
	between(t, m, "c", "", l[4:])
	between(t, m, "c\x00", "", nil)
	between(t, m, "\xff", "", nil)
	between(t, m, "b", "a", nil)
	between(t, m, "\xff", "\x00", nil)
	between(t, m, "d", "c", nil)
	greatest := []api.Entry{live("", 1<<40, "\x01\x01"), dead("", 1), live("\x00", 1<<40, "\x01\x01"), live("\xff", 1<<40, "\x01\x02")}
	m = of(t, greatest)
	between(t, m, "", "", greatest)
	between(t, m, "", "\x00", greatest[:2])
	between(t, m, "", "\x00\x00", greatest[:3])
	between(t, m, "\x00", "\xff", greatest[2:3])
	between(t, m, "\xff", "", greatest[3:])
}

func TestM2BetweenOfAll(t *testing.T) {
	for seed := range 20 {
		r := rand.New(rand.NewSource(int64(seed)))
		l := randomEntries(r, 4*seed)
		m, sorted := of(t, l), inOrder(l)
		names := keysAbout(l)
		for range 200 {
			from, to := names[r.Intn(len(names))], names[r.Intn(len(names))]
			var want []api.Entry
			for _, e := range sorted {
				if e.Key >= from && (to == "" || e.Key < to) {
					want = append(want, e)
				}
			}
			between(t, m, from, to, want)
		}
	}
}

func TestM2Cites(t *testing.T) {
	for _, c := range []struct {
		l    []api.Entry
		want []api.Cite
	}{
		{nil, nil},
		{[]api.Entry{live("k", 3, "\x01\x02")}, []api.Cite{{Table: 1, Version: 2, Rows: 1}}},
		{[]api.Entry{dead("k", 3), dead("l", 3)}, nil},
		{[]api.Entry{live("a", 3, "\x02\x01"), live("a", 2, "\x01\x05r"), dead("a", 1), live("b", 1, "\x01\x05"), live("c", 1, "\x01\x04")},
			[]api.Cite{{Table: 1, Version: 4, Rows: 1}, {Table: 1, Version: 5, Rows: 2}, {Table: 2, Version: 1, Rows: 1}}},
		{[]api.Entry{live("a", 1, "\x00\x00"), live("b", 1, citing(1000000, 1000000, "")), live("c", 1, citing(1000000, 0, "")), live("d", 1, citing(0, 1000000, "")), live("e", 1, "\x00\x00\x00")},
			[]api.Cite{{Table: 0, Version: 0, Rows: 2}, {Table: 0, Version: 1000000, Rows: 1}, {Table: 1000000, Version: 0, Rows: 1}, {Table: 1000000, Version: 1000000, Rows: 1}}},
		{[]api.Entry{live("a", 1, "\x02\x01"), live("b", 1, "\x01\x02"), live("c", 1, "\x02\x02"), live("d", 1, "\x01\x01")},
			[]api.Cite{{Table: 1, Version: 1, Rows: 1}, {Table: 1, Version: 2, Rows: 1}, {Table: 2, Version: 1, Rows: 1}, {Table: 2, Version: 2, Rows: 1}}},
	} {
		if l := of(t, c.l).Cites(); !slices.Equal(l, c.want) {
			t.Errorf("Cites: %v, not %v", l, c.want)
		}
	}
}

// TestM2CitesOfMany has far more tables and versions than are ever used, and asks after each entry.
func TestM2CitesOfMany(t *testing.T) {
	r := rand.New(rand.NewSource(2))
	m := New()
	var l []api.Entry
	for i := range 300 {
		e := live("k"+strconv.Itoa(i), 1, citing(uint64(r.Intn(20)), uint64(r.Intn(8)), ""))
		add(t, m, e, api.OK)
		l = append(l, e)
		if got := m.Cites(); !slices.Equal(got, citesOf(l)) {
			t.Fatalf("%d entries: %v, not %v", i+1, got, citesOf(l))
		}
	}
}

// TestM3AnyOrder adds entries in each of the orders that few have, and in some of those that many have.
func TestM3AnyOrder(t *testing.T) {
	few := []api.Entry{live("a", 5, "\x01\x01"), dead("a", 2), live("a\x00", 1, "\x02\x01"), dead("b", 3), live("b", 1, "\x01\x01"), live("c", 1<<40, "\x00\x00")}
	eachOrder(slices.Clone(few), 0, func(l []api.Entry) { holds(t, of(t, l), few) })
	for seed := range 20 {
		r := rand.New(rand.NewSource(int64(seed)))
		l := randomEntries(r, 200)
		want := inOrder(l)
		back := slices.Clone(want)
		slices.Reverse(back)
		holds(t, of(t, want), want)
		holds(t, of(t, back), want)
		for range 5 {
			r.Shuffle(len(l), func(i, j int) { l[i], l[j] = l[j], l[i] })
			holds(t, of(t, l), want)
		}
	}
}

// eachOrder calls use with each order of the elements from the nth on.
func eachOrder(l []api.Entry, n int, use func(l []api.Entry)) {
	if n == len(l) {
		use(l)
		return
	}
	for i := n; i < len(l); i++ {
		l[n], l[i] = l[i], l[n]
		eachOrder(l, n+1, use)
		l[n], l[i] = l[i], l[n]
	}
}

// TestM3AsTable asks a memory and the table file of its entries for the same things.
func TestM3AsTable(t *testing.T) {
	for seed := range 20 {
		r := rand.New(rand.NewSource(int64(seed)))
		l := randomEntries(r, 1+4*seed)
		m := of(t, l)
		s, e := table.Build(m.Between("", ""))
		if e != api.OK {
			t.Fatal(e)
		}
		f, e := table.Open(s)
		if e != api.OK {
			t.Fatal(e)
		}
		if m.Len() != f.Len() || !slices.Equal(m.Cites(), f.Cites()) {
			t.Errorf("%d, %v, not %d, %v", m.Len(), m.Cites(), f.Len(), f.Cites())
		}
		for _, key := range keysAbout(l) {
			for _, at := range seqsAbout(l, key) {
				want, ok := f.Get(key, at)
				get(t, m, key, at, want, ok)
			}
			for _, to := range []string{"", "a", key, key + "\x00", "\xff"} {
				between(t, m, key, to, f.Between(key, to))
			}
		}
	}
}

// TestP1OfNoNew asks a Memory that New did not make.
func TestP1OfNoNew(t *testing.T) {
	m := new(Memory)
	holds(t, m, nil)
	get(t, m, "", 1, api.Entry{}, false)
	between(t, m, "b", "a", nil)
	add(t, m, live("", 0, ""), api.ErrArg)
	add(t, m, live("", 1, "\x01\x02"), api.OK)
	add(t, m, live("", 1, "\x01\x02"), api.ErrThere)
	holds(t, m, []api.Entry{live("", 1, "\x01\x02")})
}

// TestP1Many adds entries in order, against it, and to both ends, which must not make the calls after it slow.
func TestP1Many(t *testing.T) {
	const n = 100000
	for _, place := range []func(i int) int{
		func(i int) int { return i },
		func(i int) int { return n - 1 - i },
		func(i int) int { return n/2 + (i+1)/2*(1-i%2*2) },
	} {
		m := New()
		for i := range n {
			m.Add(live("k", 1+place(i), citing(1, uint64(i%3), "")))
			m.Add(dead("k", 1+place(i)))
		}
		l := m.Between("k", "l")
		if len(l) != n || m.Len() != n || m.Size() != 3*n || len(m.Cites()) != 3 {
			t.Fatal(len(l), m.Len(), m.Size(), m.Cites())
		}
		for i, e := range l {
			if e.Seq != n-i {
				t.Fatal(i, e)
			}
			if got, ok := m.Get("k", n-i); !ok || got != e {
				t.Fatal(i, got, ok)
			}
		}
	}
}

// TestP3AnswersAreNew writes to what is returned, and behind its end: the memory does not show it.
func TestP3AnswersAreNew(t *testing.T) {
	l := randomEntries(rand.New(rand.NewSource(3)), 60)
	m := of(t, l)
	for _, from := range keysAbout(l) {
		for _, to := range []string{"", "a", "k", l[len(l)/2].Key} {
			got := m.Between(from, to)
			clear(got[:cap(got)])
		}
		told := m.Cites()
		clear(told[:cap(told)])
	}
	holds(t, m, inOrder(l))
}

// TestP3AnswersStay: what was returned is as it was, whatever is added later.
func TestP3AnswersStay(t *testing.T) {
	l := randomEntries(rand.New(rand.NewSource(4)), 200)
	m := of(t, l[:20])
	all, cites := m.Between("", ""), m.Cites()
	for _, e := range l[20:] {
		add(t, m, e, api.OK)
	}
	if !slices.Equal(all, inOrder(l[:20])) || !slices.Equal(cites, citesOf(l[:20])) {
		t.Error("what was returned has changed")
	}
}

// TestP4TheSameEachTime: asking changes nothing, and one memory has nothing of another one.
func TestP4TheSameEachTime(t *testing.T) {
	l := randomEntries(rand.New(rand.NewSource(5)), 60)
	m, other := of(t, l), of(t, l[:9])
	for range 3 {
		holds(t, m, inOrder(l))
		holds(t, other, inOrder(l[:9]))
		holds(t, New(), nil)
	}
}
