package table

import (
	"cmp"
	"math"
	"math/rand"
	"slices"
	"testing"

	"moult/api"
)

// of is the table of some entries, which must be those of a file.
func of(t *testing.T, l []api.Entry) *Table {
	t.Helper()
	return opened(t, framed(t, partsOf(t, l)...))
}

// keysAbout are the keys of entries, and what is little less and little greater than each of them.
func keysAbout(l []api.Entry) []string {
	names := []string{"", "\x00", "a", "k", "\xff", "\xff\xff\xff\xff"}
	for _, e := range l {
		names = append(names, e.Key, e.Key+"\x00", e.Key+"\xff")
		if n := len(e.Key); n > 0 {
			b := []byte(e.Key)
			b[n-1]--
			names = append(names, e.Key[:n-1], string(b), string(b)+"\xff")
		}
	}
	slices.Sort(names)
	return slices.Compact(names)
}

// seqsAbout are the seqs of a key's entries, and those next to them.
func seqsAbout(l []api.Entry, key string) []int {
	seqs := []int{math.MinInt, -1, 0, 1, 1 << 40, math.MaxInt}
	for _, e := range l {
		if e.Key == key {
			seqs = append(seqs, e.Seq-1, e.Seq, e.Seq+1)
		}
	}
	return seqs
}

func get(t *testing.T, x *Table, key string, at int, want api.Entry, wantOK bool) {
	t.Helper()
	if e, ok := x.Get(key, at); e != want || ok != wantOK {
		t.Errorf("Get(%.20q, %d): %.20q %d %v, %v, not %.20q %d, %v", key, at, e.Key, e.Seq, e.Dead, ok, want.Key, want.Seq, wantOK)
	}
}

func TestT3Get(t *testing.T) {
	l := []api.Entry{live("a", 9, "\x01\x01"), dead("a", 5), live("a", 2, "\x01\x02"), dead("b", 1), live("c", 1<<40, "\x01\x03")}
	x := of(t, l)
	get(t, x, "a", 10, l[0], true)
	get(t, x, "a", 9, l[0], true)
	get(t, x, "a", 8, l[1], true)
	get(t, x, "a", 5, l[1], true)
	get(t, x, "a", 4, l[2], true)
	get(t, x, "a", 2, l[2], true)
	get(t, x, "a", 1, api.Entry{}, false)
	get(t, x, "a", 0, api.Entry{}, false)
	get(t, x, "a", -1, api.Entry{}, false)
	get(t, x, "a", math.MinInt, api.Entry{}, false)
	get(t, x, "a", math.MaxInt, l[0], true)
	get(t, x, "b", 1, l[3], true)
	get(t, x, "b", 0, api.Entry{}, false)
	get(t, x, "c", 1<<40, l[4], true)
	get(t, x, "c", 1<<40-1, api.Entry{}, false)
	for _, key := range []string{"", "\x00", "A", "a\x00", "aa", "ab", "b\x00", "bb", "c\x00", "d", "\xff", "x" + string(make([]byte, 2000))} {
		get(t, x, key, math.MaxInt, api.Entry{}, false)
	}
	x = of(t, []api.Entry{live("k", 3, "\x01\x02")})
	get(t, x, "k", 2, api.Entry{}, false)
	get(t, x, "k", 9, live("k", 3, "\x01\x02"), true)
}

// TestT3GetOfAll asks for each key, and those next to it, at each seq, and those next to it.
func TestT3GetOfAll(t *testing.T) {
	for _, l := range someFiles() {
		if len(l) > 100 {
			continue
		}
		x := of(t, l)
		for _, key := range keysAbout(l) {
			for _, at := range seqsAbout(l, key) {
				want, ok := api.Entry{}, false
				for _, e := range l {
					if e.Key == key && e.Seq <= at && e.Seq > want.Seq {
						want, ok = e, true
					}
				}
				get(t, x, key, at, want, ok)
			}
		}
	}
}

func between(t *testing.T, x *Table, from, to string, want []api.Entry) {
	t.Helper()
	if l := x.Between(from, to); !slices.Equal(l, want) {
		t.Errorf("Between(%.20q, %.20q): %d entries, not %d", from, to, len(l), len(want))
	}
}

func TestT3Between(t *testing.T) {
	l := []api.Entry{live("a", 9, "\x01\x01"), dead("a", 5), live("a\x00", 2, "\x01\x02"), dead("b", 1), live("c", 3, "\x01\x03")}
	x := of(t, l)
	between(t, x, "", "", l)
	between(t, x, "a", "", l)
	between(t, x, "a", "c\x00", l)
	between(t, x, "a", "c", l[:4])
	between(t, x, "a", "b", l[:3])
	between(t, x, "a", "a\x00", l[:2])
	between(t, x, "", "a", nil)
	between(t, x, "a", "a", nil)
	between(t, x, "a\x00", "b\x00", l[2:4])
	between(t, x, "aa", "bb", l[3:4])
	between(t, x, "aa", "b", nil)
	between(t, x, "c", "", l[4:])
	between(t, x, "c\x00", "", nil)
	between(t, x, "\xff", "", nil)
	between(t, x, "b", "a", nil)
	between(t, x, "\xff", "\x00", nil)
	between(t, x, "d", "c", nil)
}

func TestT3BetweenOfAll(t *testing.T) {
	for i, l := range someFiles() {
		if len(l) > 100 {
			continue
		}
		x := of(t, l)
		names := keysAbout(l)
		r := rand.New(rand.NewSource(int64(i)))
		for range 200 {
			from, to := names[r.Intn(len(names))], names[r.Intn(len(names))]
			var want []api.Entry
			for _, e := range l {
				if e.Key >= from && (to == "" || e.Key < to) {
					want = append(want, e)
				}
			}
			between(t, x, from, to, want)
		}
	}
}

func TestT3Cites(t *testing.T) {
	for _, c := range []struct {
		l    []api.Entry
		want []api.Cite
	}{
		{[]api.Entry{live("k", 3, "\x01\x02")}, []api.Cite{{Table: 1, Version: 2, Rows: 1}}},
		{[]api.Entry{dead("k", 3), dead("l", 3)}, nil},
		{[]api.Entry{live("a", 3, "\x02\x01"), live("a", 2, "\x01\x05r"), dead("a", 1), live("b", 1, "\x01\x05"), live("c", 1, "\x01\x04")},
			[]api.Cite{{Table: 1, Version: 4, Rows: 1}, {Table: 1, Version: 5, Rows: 2}, {Table: 2, Version: 1, Rows: 1}}},
		{[]api.Entry{live("a", 1, "\x00\x00"), live("b", 1, citing(1000000, 1000000, "")), live("c", 1, citing(1000000, 0, "")), live("d", 1, citing(0, 1000000, "")), live("e", 1, "\x00\x00\x00")},
			[]api.Cite{{Table: 0, Version: 0, Rows: 2}, {Table: 0, Version: 1000000, Rows: 1}, {Table: 1000000, Version: 0, Rows: 1}, {Table: 1000000, Version: 1000000, Rows: 1}}},
		{numbered(500, "\x07\x08"), []api.Cite{{Table: 7, Version: 8, Rows: 500}}},
	} {
		if l := of(t, c.l).Cites(); !slices.Equal(l, c.want) {
			t.Errorf("Cites: %v, not %v", l, c.want)
		}
	}
	for _, l := range someFiles() {
		told := of(t, l).Cites()
		s := numbers(len(l), len(told))
		for _, c := range told {
			s += numbers(c.Table, c.Version, c.Rows)
		}
		sorted := slices.IsSortedFunc(told, func(a, b api.Cite) int {
			return cmp.Or(cmp.Compare(a.Table, b.Table), cmp.Compare(a.Version, b.Version))
		})
		if s != tellOf(l) || !sorted {
			t.Errorf("Cites of %d entries: %v", len(l), told)
		}
	}
}

func TestT3BoundsAndLen(t *testing.T) {
	for _, l := range someFiles() {
		x := of(t, l)
		first, last := x.Bounds()
		if first != l[0].Key || last != l[len(l)-1].Key || x.Len() != len(l) {
			t.Errorf("%d entries: %.20q, %.20q, %d", len(l), first, last, x.Len())
		}
	}
	if first, last := of(t, []api.Entry{dead("k", 2), dead("k", 1)}).Bounds(); first != "k" || last != "k" {
		t.Errorf("%q, %q", first, last)
	}
}

// TestP1OfNoFile asks a Table that Open did not make.
func TestP1OfNoFile(t *testing.T) {
	x := new(Table)
	get(t, x, "", 1, api.Entry{}, false)
	between(t, x, "", "", nil)
	between(t, x, "b", "a", nil)
	first, last := x.Bounds()
	if first != "" || last != "" || x.Len() != 0 || len(x.Cites()) != 0 {
		t.Errorf("%q, %q, %d, %v", first, last, x.Len(), x.Cites())
	}
}

// TestP3AnswersAreNew writes to what is returned, and behind its end: the table does not show it.
func TestP3AnswersAreNew(t *testing.T) {
	l := randomEntries(rand.New(rand.NewSource(3)), 60)
	x := of(t, l)
	cited := x.Cites()
	for _, from := range append(keysAbout(l), "") {
		for _, to := range []string{"", "a", "k", l[len(l)/2].Key} {
			got := x.Between(from, to)
			clear(got[:cap(got)])
		}
		told := x.Cites()
		clear(told[:cap(told)])
	}
	if !slices.Equal(x.Between("", ""), l) || !slices.Equal(x.Cites(), cited) {
		t.Error("the table shares with what it returned")
	}
}

func TestP4TheSameEachTime(t *testing.T) {
	l := randomEntries(rand.New(rand.NewSource(4)), 60)
	s := framed(t, partsOf(t, l)...)
	first, other := opened(t, s), of(t, numbered(20, "\x01\x01"))
	for range 3 {
		build(t, l, s, api.OK)
		x := opened(t, s)
		between(t, x, "", "", l)
		between(t, first, "", "", l)
		between(t, other, "", "", numbered(20, "\x01\x01"))
		if !slices.Equal(x.Cites(), first.Cites()) {
			t.Error(x.Cites())
		}
		get(t, x, l[0].Key, math.MaxInt, l[0], true)
	}
}
