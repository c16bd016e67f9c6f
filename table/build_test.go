package table

import (
	"cmp"
	"math"
	"math/rand"
	"slices"
	"strconv"
	"strings"
	"testing"

	"moult/api"
	"moult/block"
	"moult/check"
	"moult/filter"
	"moult/varint"
)

// numbered are so many entries, each with another key, which all have the same length.
func numbered(n int, data string) []api.Entry {
	var l []api.Entry
	for i := range n {
		l = append(l, live("k"+strconv.Itoa(1000+i), 1+i, data))
	}
	return l
}

// numbers are numbers as they are written, one behind the other.
func numbers(l ...int) string {
	s := ""
	for _, n := range l {
		s += varint.Put(uint64(n))
	}
	return s
}

// rowOf is a block of some entries, whether they are valid or not.
func rowOf(t *testing.T, l ...api.Entry) string {
	t.Helper()
	var row []block.Pair
	for _, e := range l {
		p := block.Pair{Key: inner(e.Key, e.Seq), Value: "\x01" + e.Data}
		if e.Dead {
			p.Value = "\x00"
		}
		row = append(row, p)
	}
	s, e := block.Build(row)
	if e != api.OK {
		t.Fatalf("a row of %d entries: %v", len(l), e)
	}
	return s
}

// tellOf is what the last frame has, as the chapter's words say: what is cited is looked for among all that may be.
func tellOf(l []api.Entry) string {
	rows := map[[2]uint64]int{}
	for _, e := range l {
		if table, rest, ok := varint.Take(e.Data); ok && !e.Dead {
			version, _, _ := varint.Take(rest)
			rows[[2]uint64{table, version}]++
		}
	}
	var cited [][2]uint64
	for c := range rows {
		cited = append(cited, c)
	}
	slices.SortFunc(cited, func(a, b [2]uint64) int { return slices.Compare(a[:], b[:]) })
	s := numbers(len(l), len(cited))
	for _, c := range cited {
		s += numbers(int(c[0]), int(c[1]), rows[c])
	}
	return s
}

// filterOf is the filter of the keys of some entries.
func filterOf(l []api.Entry) string {
	var names []string
	for i, e := range l {
		if i == 0 || e.Key != l[i-1].Key {
			names = append(names, e.Key)
		}
	}
	return filter.Build(names)
}

// partsOf are the payloads of a file, as the chapter's words say, whether Build would write it or not.
func partsOf(t *testing.T, l []api.Entry) []string {
	t.Helper()
	var parts []string
	begin, total := 0, 0
	for i, e := range l {
		if total += len(inner(e.Key, e.Seq)) + 1 + len(e.Data); total >= 600 {
			parts = append(parts, rowOf(t, l[begin:i+1]...))
			begin, total = i+1, 0
		}
	}
	if begin < len(l) {
		parts = append(parts, rowOf(t, l[begin:]...))
	}
	return append(parts, filterOf(l), tellOf(l))
}

// framed are payloads, each in a frame.
func framed(t *testing.T, parts ...string) string {
	t.Helper()
	s := ""
	for _, part := range parts {
		f, e := check.Frame(part)
		if e != api.OK {
			t.Fatalf("a frame of %d bytes: %v", len(part), e)
		}
		s += f
	}
	return s
}

// randomEntries are entries of few keys and many seqs, or of many keys, in their order.
func randomEntries(r *rand.Rand, most int) []api.Entry {
	l := []api.Entry{live("k", 1, "\x01\x01")}
	for range r.Intn(most) {
		b := make([]byte, r.Intn(1+r.Intn(6)))
		for i := range b {
			b[i] = "\x00a\xff"[r.Intn(3)]
		}
		e := api.Entry{Key: strings.Repeat("k", r.Intn(2)*r.Intn(300)) + string(b), Seq: 1 + r.Intn(1<<r.Intn(40)), Dead: r.Intn(3) == 0}
		if !e.Dead {
			e.Data = citing(uint64(r.Intn(4)), uint64(r.Intn(1<<r.Intn(19))), noise(r.Intn(1<<r.Intn(10)), r.Int63()))
		}
		l = append(l, e)
	}
	slices.SortFunc(l, func(a, b api.Entry) int { return cmp.Or(cmp.Compare(a.Key, b.Key), cmp.Compare(b.Seq, a.Seq)) })
	return slices.CompactFunc(l, func(a, b api.Entry) bool { return a.Key == b.Key && a.Seq == b.Seq })
}

// someFiles have each kind of entry alone and among others, and rows that end just at 600 bytes, and next to it.
func someFiles() [][]api.Entry {
	l := [][]api.Entry{
		{live("k", 3, "\x01\x02")}, {dead("k", 3)}, {dead("", 1)}, {live("", 1<<40, "\x00\x00")},
		{live("a", 5, "\x01\x01x"), dead("a", 2), live("a\x00", 9, "\x01\x03"), live("b", 1, "\x01\x01")},
		{dead("a", 3), dead("a", 2), dead("a", 1)},
		{live("", 1, "\x02\x01"), live("\x00", 1, "\x01\x02"), live("\x00\x00", 1, "\x02\x01"), live("\x00\x01", 1, "\x01\x01"), live("\x01", 1, "\x03\x00")},
		{live("a", 2, citing(1000000, 999999, "")), live("a", 1, citing(1000000, 1000000, "")), live("b", 1, citing(240, 241, "")), live("c", 1, citing(2287, 2288, "r"))},
		{live(strings.Repeat("\x00", 1200), 1<<40, "\x01\x01"+x(24998)), live("\xff", 1, "\x01\x01")},
		{live("a", 1, "\x01\x01"+x(24998)), live("b", 1, "\x01\x01"+x(24998)), dead("c", 1)},
		numbered(500, "\x01\x01"), numbered(241, "\x01\x02r"), numbered(60, "\x01\x01"+x(100)),
	}
	// One pair of a key of one byte has twelve bytes beside its data.
	for n := 580; n < 595; n++ {
		l = append(l, []api.Entry{live("a", 1, "\x01\x01"+x(n-2))}, []api.Entry{live("a", 1, "\x01\x01"+x(n-2)), dead("b", 1)}, []api.Entry{dead("a", 1), live("b", 1, "\x01\x01"+x(n-14)), dead("c", 1)})
	}
	for seed := range int64(150) {
		l = append(l, randomEntries(rand.New(rand.NewSource(seed)), 1<<(seed%8)))
	}
	return l
}

func build(t *testing.T, l []api.Entry, want string, wantE api.Errno) {
	t.Helper()
	if s, e := Build(l); s != want || e != wantE {
		t.Errorf("Build of %d entries: %.60q of %d bytes, %v, not %.60q of %d, %v", len(l), s, len(s), e, want, len(want), wantE)
	}
}

func TestT2Build(t *testing.T) {
	build(t, []api.Entry{live("k", 3, "\x01\x02")}, "\x11\x00\x0b\x03k\x00\x00\x7f\xff\xff\xff\xff\xff\xff\xfc\x01\x01\x02\x24\xc4\xca\x04"+
		"\x08\x40\x00\x08\x00\x00\x10\x00\x02\x52\xc4\x5d\xb5"+"\x05\x01\x01\x01\x02\x01\x07\x0d\x81\xeb", api.OK)
	build(t, []api.Entry{dead("k", 3)}, "\x0f\x00\x0b\x01k\x00\x00\x7f\xff\xff\xff\xff\xff\xff\xfc\x00\x71\xee\x99\xb6"+
		"\x08\x40\x00\x08\x00\x00\x10\x00\x02\x52\xc4\x5d\xb5"+"\x02\x01\x00\x58\xc2\x23\xbe", api.OK)
	build(t, []api.Entry{live("a", 5, "\x01\x01x"), dead("a", 2), live("a\x00", 9, "\x01\x03"), live("b", 1, "\x01\x01")},
		"\x39\x00\x0b\x04a\x00\x00\x7f\xff\xff\xff\xff\xff\xff\xfa\x01\x01\x01x"+"\x0a\x01\x01\xfd\x00"+
			"\x02\x0b\x03\xff\x00\x00\x7f\xff\xff\xff\xff\xff\xff\xf6\x01\x01\x03"+"\x00\x0b\x03b\x00\x00\x7f\xff\xff\xff\xff\xff\xff\xfe\x01\x01\x01\x77\x30\xa5\xf5"+
			"\x08\x18\x00\x03\x20\x80\x44\xa0\x10\xa4\x53\x97\xf7"+"\x08\x04\x02\x01\x01\x02\x01\x03\x01\x77\x2a\xfb\x46", api.OK)
	for _, l := range someFiles() {
		build(t, l, framed(t, partsOf(t, l)...), api.OK)
	}
}

// wrongEntries are such that each is not valid for one reason.
func wrongEntries(key string, seq int) []api.Entry {
	return []api.Entry{
		{Key: key, Seq: seq}, {Key: key, Seq: seq, Dead: true, Data: "\x01\x02"}, {Key: key, Seq: seq, Dead: true, Data: "\x00"},
		live(key, 0, "\x01\x02"), live(key, -1, "\x01\x02"), live(key, math.MinInt, "\x01\x02"), live(key, 1<<40+1, "\x01\x02"), dead(key, 0), dead(key, math.MaxInt),
		live(key, seq, "\x01"), live(key, seq, citing(1, 1000001, "")), live(key, seq, citing(1000001, 1, "")), live(key, seq, "\x01\x02"+x(24999)),
		live(key+x(1200), seq, "\x01\x02"), dead(key+x(1200), seq),
	}
}

func TestT2BuildOfWrong(t *testing.T) {
	build(t, nil, "", api.ErrArg)
	build(t, []api.Entry{}, "", api.ErrArg)
	l := numbered(20, "\x01\x01"+x(70))
	for i := range l {
		for _, e := range wrongEntries(l[i].Key, l[i].Seq) {
			wrong := slices.Clone(l)
			wrong[i] = e
			build(t, wrong, "", api.ErrArg)
			build(t, []api.Entry{e}, "", api.ErrArg)
		}
	}
}

func TestT2BuildOfDisorder(t *testing.T) {
	for _, l := range [][]api.Entry{
		{dead("b", 1), dead("a", 1)}, {dead("a", 1), dead("a", 2)}, {dead("a", 1), dead("a", 1)}, {live("a", 1, "\x01\x01"), live("a", 1, "\x01\x02")}, {dead("a", 1), live("a", 1, "\x01\x01")},
		{live("a", 1, "\x01\x01"), dead("a", 1)}, {dead("a", 1), dead("", 2)}, {dead("a\x00", 2), dead("a", 1)}, {dead("\x80", 2), dead("\x7f", 1)},
	} {
		build(t, l, "", api.ErrArg)
	}
	l := numbered(40, "\x01\x01"+x(70))
	for i := range l[1:] {
		wrong := slices.Clone(l)
		wrong[i], wrong[i+1] = wrong[i+1], wrong[i]
		build(t, wrong, "", api.ErrArg)
		wrong[i] = wrong[i+1]
		build(t, wrong, "", api.ErrArg)
		wrong[i+1].Seq++
		build(t, wrong, "", api.ErrArg)
		wrong[i+1].Seq -= 2
		if wrong[i+1].Seq > 0 {
			build(t, wrong, framed(t, partsOf(t, wrong)...), api.OK)
		}
	}
}

func TestT2BuildOfMany(t *testing.T) {
	l := numbered(700, "\x01\x01")
	build(t, l[:499], framed(t, partsOf(t, l[:499])...), api.OK)
	build(t, l[:500], framed(t, partsOf(t, l[:500])...), api.OK)
	build(t, l[:501], "", api.ErrMany)
	build(t, l, "", api.ErrMany)
	// What is not valid, or out of order, is told ahead of that, wherever it is.
	for _, at := range []int{1, 2, 499, 500, 501, 699} {
		wrong := slices.Clone(l)
		wrong[at].Data = "\x01"
		build(t, wrong, "", api.ErrArg)
		wrong = slices.Clone(l)
		wrong[at].Key = l[at-1].Key
		build(t, wrong, "", api.ErrArg)
	}
}

// TestT2BuildOfGreatest: the greatest row that valid entries have is a block by far.
func TestT2BuildOfGreatest(t *testing.T) {
	var l []api.Entry
	for seq := range 54 {
		l = append(l, dead("", 1000-seq))
	}
	l = append(l, live(strings.Repeat("\x00", 1200), 1, citing(1000000, 1000000, x(24992))))
	s, e := Build(l)
	parts, _, _ := check.Scan(s)
	if e != api.OK || len(parts) != 3 || len(parts[0]) < 27000 || len(parts[0]) > 40000 {
		t.Errorf("%v, %d frames", e, len(parts))
	}
	build(t, l, framed(t, partsOf(t, l)...), api.OK)
}

func TestP3BuildWritesNothing(t *testing.T) {
	l := numbered(100, "\x01\x01"+x(30))
	before, want := slices.Clone(l), framed(t, partsOf(t, l[:60])...)
	l[60].Seq = 0
	before[60].Seq = 0
	build(t, l[:60], want, api.OK)
	build(t, l, "", api.ErrArg)
	if !slices.Equal(l, before) {
		t.Error("Build writes to what it is given")
	}
}
