package table

import (
	"math/rand"
	"runtime"
	"slices"
	"strings"
	"testing"

	"moult/api"
	"moult/check"
	"moult/filter"
)

// opened is the table of a file that Open must take.
func opened(t *testing.T, s string) *Table {
	t.Helper()
	x, e := Open(s)
	if e != api.OK || x == nil {
		t.Fatalf("Open of %d bytes: %v", len(s), e)
	}
	return x
}

func refused(t *testing.T, s string, want api.Errno) {
	t.Helper()
	if x, e := Open(s); x != nil || e != want {
		t.Errorf("Open(%.60q) of %d bytes: %v, not %v", s, len(s), e, want)
	}
}

func TestT2Open(t *testing.T) {
	for _, l := range someFiles() {
		x := opened(t, framed(t, partsOf(t, l)...))
		if got := x.Between("", ""); !slices.Equal(got, l) || x.Len() != len(l) {
			t.Errorf("%d entries opened: %d, %d", len(l), x.Len(), len(got))
		}
	}
}

func TestT4OpenOfBuild(t *testing.T) {
	for _, l := range someFiles() {
		s, e := Build(l)
		if e != api.OK {
			t.Fatal(e)
		}
		got := opened(t, s).Between("", "")
		if !slices.Equal(got, l) {
			t.Errorf("%d entries opened: %d", len(l), len(got))
		}
		build(t, got, s, api.OK)
	}
}

// TestT2OpenOfNoFrames: what Scan tells is told first, whatever the frames ahead of it have in them.
func TestT2OpenOfNoFrames(t *testing.T) {
	l := numbered(30, "\x01\x01"+x(60))
	s := framed(t, partsOf(t, l)...)
	damaged := s[:len(s)-1] + string([]byte{s[len(s)-1] ^ 1})
	long := "\xf9\x93\x51" + x(50000)
	refused(t, "", api.ErrForm)
	refused(t, "\xff", api.ErrForm)
	refused(t, s+"\x00", api.ErrForm)
	refused(t, s+"\xff", api.ErrForm)
	refused(t, s+s, api.ErrForm)
	refused(t, damaged, api.ErrSum)
	refused(t, long, api.ErrForm)
	refused(t, s+long, api.ErrForm)
	for _, ahead := range []string{framed(t, ""), framed(t, "x"), framed(t, "", "", "", ""), framed(t, x(40000)), framed(t, "", "", "\x00\x00")} {
		refused(t, ahead, api.ErrForm)
		refused(t, ahead+damaged, api.ErrSum)
		refused(t, ahead+long, api.ErrForm)
		refused(t, damaged+ahead, api.ErrSum)
		refused(t, long+ahead, api.ErrForm)
	}
}

// TestT2OpenOfCut cuts a file at each place, and takes out each byte.
func TestT2OpenOfCut(t *testing.T) {
	s := framed(t, partsOf(t, numbered(30, "\x01\x01"+x(60)))...)
	for n := range len(s) {
		refused(t, s[:n], api.ErrForm)
		if x, e := Open(s[:n] + s[n+1:]); x != nil || e == api.OK {
			t.Errorf("without byte %d: %v", n, e)
		}
		if x, e := Open(s[n+1:]); x != nil || e == api.OK {
			t.Errorf("from byte %d on: %v", n+1, e)
		}
	}
}

// TestTH6Damage changes each byte of files in several ways.
func TestTH6Damage(t *testing.T) {
	for _, l := range [][]api.Entry{{live("k", 3, "\x01\x02")}, {dead("k", 3)}, numbered(30, "\x01\x01"+x(60)), randomEntries(rand.New(rand.NewSource(5)), 20)} {
		parts := partsOf(t, l)
		s := framed(t, parts...)
		lengths := lengthsOf(t, parts)
		for at := range len(s) {
			for _, change := range []byte{1, 2, 4, 8, 16, 32, 64, 128, 255, s[at]} {
				if change == 0 {
					continue
				}
				x, e := Open(s[:at] + string([]byte{s[at] ^ change}) + s[at+1:])
				if x != nil || e == api.OK || e != api.ErrSum && !slices.Contains(lengths, at) {
					t.Fatalf("byte %d combined with %d: %v", at, change, e)
				}
			}
		}
	}
}

// lengthsOf are the places of the bytes that tell the lengths of frames.
func lengthsOf(t *testing.T, parts []string) []int {
	t.Helper()
	var places []int
	at := 0
	for _, part := range parts {
		end := at + len(framed(t, part))
		for ; at < end-4-len(part); at++ {
			places = append(places, at)
		}
		at = end
	}
	return places
}

// TestT2OpenOfOtherFrames has frames that are whole, but not those of a table file.
func TestT2OpenOfOtherFrames(t *testing.T) {
	l := numbered(30, "\x01\x01"+x(60))
	parts := partsOf(t, l)
	n := len(parts)
	if n < 6 {
		t.Fatalf("only %d frames", n)
	}
	opened(t, framed(t, parts...))
	for i := range parts {
		refused(t, framed(t, parts[:i]...), api.ErrForm)
		refused(t, framed(t, parts[i+1:]...), api.ErrForm)
		refused(t, framed(t, slices.Delete(slices.Clone(parts), i, i+1)...), api.ErrForm)
		for _, part := range []string{"", "\x00", "x", parts[i], parts[n-1], parts[n-2]} {
			refused(t, framed(t, slices.Insert(slices.Clone(parts), i, part)...), api.ErrForm)
			other := slices.Clone(parts)
			if other[i] = part; part != parts[i] {
				refused(t, framed(t, other...), api.ErrForm)
			}
			other[i] = parts[i] + part
			if part != "" {
				refused(t, framed(t, other...), api.ErrForm)
			}
			refused(t, framed(t, append(slices.Clone(parts), part)...), api.ErrForm)
		}
		for k := range i {
			other := slices.Clone(parts)
			other[i], other[k] = other[k], other[i]
			refused(t, framed(t, other...), api.ErrForm)
		}
	}
}

// TestT2OpenOfOtherRows has the right entries in blocks that Split would not make.
func TestT2OpenOfOtherRows(t *testing.T) {
	l := numbered(30, "\x01\x01"+x(60))
	behind := []string{filterOf(l), tellOf(l)}
	right := framed(t, partsOf(t, l)...)
	for a := 0; a <= 30; a++ {
		for b := a; b <= 30; b++ {
			s := framed(t, append([]string{rowOf(t, l[:a]...), rowOf(t, l[a:b]...), rowOf(t, l[b:]...)}, behind...)...)
			if s != right {
				refused(t, s, api.ErrForm)
			}
		}
	}
	small := []api.Entry{dead("a", 1), dead("b", 1)}
	behind = []string{filterOf(small), tellOf(small)}
	refused(t, framed(t, append([]string{rowOf(t, small[0]), rowOf(t, small[1])}, behind...)...), api.ErrForm)
	refused(t, framed(t, append([]string{rowOf(t, small[1]), rowOf(t, small[0])}, behind...)...), api.ErrForm)
	refused(t, framed(t, append([]string{"", rowOf(t, small...)}, behind...)...), api.ErrForm)
	refused(t, framed(t, append([]string{rowOf(t, small...), ""}, behind...)...), api.ErrForm)
	opened(t, framed(t, append([]string{rowOf(t, small...)}, behind...)...))
}

// TestT2OpenOfOtherFilter has filters of other keys, or of the right ones in another number.
func TestT2OpenOfOtherFilter(t *testing.T) {
	l := []api.Entry{dead("a", 3), dead("a", 2), dead("a", 1), dead("b", 1), dead("c", 1), dead("d", 1)}
	row, tell := rowOf(t, l...), tellOf(l)
	opened(t, framed(t, row, filter.Build([]string{"a", "b", "c", "d"}), tell))
	for _, names := range [][]string{nil, {"a"}, {"a", "b", "c"}, {"b", "c", "d"}, {"a", "a", "a", "b", "c", "d"}, {"a", "b", "c", "d", "e"}, {"a", "b", "c", "e"}, {inner("a", 3), inner("b", 1), inner("c", 1), inner("d", 1)}} {
		refused(t, framed(t, row, filter.Build(names), tell), api.ErrForm)
	}
	f := []byte(filterOf(l))
	for i := range f {
		for bit := range 8 {
			f[i] ^= 1 << bit
			refused(t, framed(t, row, string(f), tell), api.ErrForm)
			f[i] ^= 1 << bit
		}
	}
	refused(t, framed(t, row, strings.Repeat("\xff", len(f)), tell), api.ErrForm)
	refused(t, framed(t, row, string(f)+"\x00", tell), api.ErrForm)
}

// TestT2OpenOfOtherCounts has last frames that tell something else, or the same otherwise.
func TestT2OpenOfOtherCounts(t *testing.T) {
	l := []api.Entry{live("a", 3, "\x02\x01"), live("a", 2, "\x01\x05r"), dead("a", 1), live("b", 1, "\x01\x05"), live("c", 1, "\x01\x04")}
	row, f := rowOf(t, l...), filterOf(l)
	opened(t, framed(t, row, f, numbers(5, 3, 1, 4, 1, 1, 5, 2, 2, 1, 1)))
	for _, s := range []string{
		"", numbers(5), numbers(5, 3), numbers(5, 0), numbers(0, 0),
		numbers(4, 3, 1, 4, 1, 1, 5, 2, 2, 1, 1), numbers(6, 3, 1, 4, 1, 1, 5, 2, 2, 1, 1), // the number of entries
		numbers(5, 2, 1, 4, 1, 1, 5, 2, 2, 1, 1), numbers(5, 4, 1, 4, 1, 1, 5, 2, 2, 1, 1), numbers(5, 2, 1, 4, 1, 1, 5, 2), numbers(5, 3, 1, 4, 1, 1, 5, 2), // of citations
		numbers(5, 3, 1, 5, 2, 1, 4, 1, 2, 1, 1), numbers(5, 3, 2, 1, 1, 1, 4, 1, 1, 5, 2), // their order
		numbers(5, 3, 1, 4, 1, 1, 5, 1, 2, 1, 1), numbers(5, 3, 1, 4, 1, 1, 5, 3, 2, 1, 1), numbers(5, 3, 1, 4, 2, 1, 5, 2, 2, 1, 1), // how often
		numbers(5, 3, 1, 4, 1, 1, 6, 2, 2, 1, 1), numbers(5, 3, 1, 4, 1, 1, 5, 2, 3, 1, 1), // of what
		numbers(5, 4, 0, 0, 1, 1, 4, 1, 1, 5, 2, 2, 1, 1), numbers(5, 4, 0, 0, 0, 1, 4, 1, 1, 5, 2, 2, 1, 1), // the dead one among them
		numbers(5, 4, 1, 4, 1, 1, 5, 1, 1, 5, 1, 2, 1, 1), // one of them in two pieces
		numbers(5, 3, 1, 4, 1, 1, 5, 2, 2, 1, 1) + "\x00", numbers(5, 3, 1, 4, 1, 1, 5, 2, 2, 1), "\xf1\x00" + numbers(3, 1, 4, 1, 1, 5, 2, 2, 1, 1),
	} {
		refused(t, framed(t, row, f, s), api.ErrForm)
	}
}

// TestT2OpenOfWrongEntries has blocks of entries that are not valid, or of what is no entry.
func TestT2OpenOfWrongEntries(t *testing.T) {
	a, z := live("a", 1, "\x01\x01"), live("z", 1, "\x01\x01")
	for _, e := range wrongEntries("k", 5) {
		if e.Dead && e.Data != "" {
			continue // nothing of that is written
		}
		for _, l := range [][]api.Entry{{e}, {a, e}, {e, z}, {a, e, z}} {
			refused(t, framed(t, partsOf(t, l)...), api.ErrForm)
		}
	}
	l := []api.Entry{live("k", 5, "\x01\x02")}
	k := inner("k", 5)
	opened(t, framed(t, numbers(0, len(k), 3)+k+"\x01\x01\x02", filterOf(l), tellOf(l)))
	for _, value := range []string{"", "\x01", "\x02", "\x02\x01\x02", "\x00\x01\x02", "\x00\x00", "\xff\x01\x02", "\x01\x01", "r"} {
		for _, tell := range []string{tellOf(l), numbers(1, 0)} {
			refused(t, framed(t, numbers(0, len(k), len(value))+k+value, filterOf(l), tell), api.ErrForm)
		}
	}
	for _, k := range []string{"", "k", "k\x00\x00", "k" + k, k + "k", k[:len(k)-1], inner("k", 0), inner("k", -1), inner("k", 1<<40+1), "k\x00\x01" + k[3:]} {
		for _, name := range []string{"", "k", k} {
			if _, seq, ok := Outer(k); ok && seq > 0 && name != "" {
				continue // another entry that is valid
			}
			refused(t, framed(t, numbers(0, len(k), 3)+k+"\x01\x01\x02", filter.Build([]string{name}), tellOf(l)), api.ErrForm)
		}
	}
}

// TestT2OpenOfDisorder has blocks of valid entries, each in order, but not all of them.
func TestT2OpenOfDisorder(t *testing.T) {
	l := numbered(30, "\x01\x01"+x(60))
	for i := range l[1:] {
		other := slices.Clone(l)
		other[i], other[i+1] = other[i+1], other[i]
		rows := blocksOf(t, other)
		refused(t, framed(t, append(rows, filterOf(l), tellOf(l))...), api.ErrForm)
		refused(t, framed(t, append(rows, filterOf(other), tellOf(other))...), api.ErrForm)
		other[i+1] = other[i]
		rows = blocksOf(t, other)
		refused(t, framed(t, append(rows, filterOf(other), tellOf(other))...), api.ErrForm)
	}
}

// blocksOf are blocks of entries as Split makes them; one that would be out of order is written as two.
func blocksOf(t *testing.T, l []api.Entry) []string {
	t.Helper()
	var rows []string
	begin, total := 0, 0
	for i, e := range l {
		total += len(inner(e.Key, e.Seq)) + 1 + len(e.Data)
		if total >= 600 || i == len(l)-1 || !Less(e, l[i+1]) {
			rows = append(rows, rowOf(t, l[begin:i+1]...))
			begin, total = i+1, 0
		}
	}
	return rows
}

// TestT2OpenOfMany: of more entries than Build takes there is no file, nor of none.
func TestT2OpenOfMany(t *testing.T) {
	l := numbered(1000, "\x01\x01")
	opened(t, framed(t, partsOf(t, l[:500])...))
	for _, n := range []int{501, 502, 600, 1000} {
		refused(t, framed(t, partsOf(t, l[:n])...), api.ErrForm)
	}
	refused(t, framed(t, partsOf(t, nil)...), api.ErrForm)
	refused(t, framed(t, "", "", "\x00\x00"), api.ErrForm)
	refused(t, framed(t, "\x00\x00"), api.ErrForm)
}

// TestP1OpenOfGreat: short blocks that tell of many long keys don't fill the memory.
func TestP1OpenOfGreat(t *testing.T) {
	name := strings.Repeat("k", 19000)
	var l []api.Entry
	for seq := range 2900 {
		l = append(l, dead(name, 4000-seq))
	}
	many := rowOf(t, l...)
	var before, after runtime.MemStats
	runtime.ReadMemStats(&before)
	refused(t, framed(t, slices.Repeat([]string{many}, 100)...), api.ErrForm)
	runtime.ReadMemStats(&after)
	if told := after.TotalAlloc - before.TotalAlloc; told > 1<<29 {
		t.Errorf("%d bytes for a file of 4000000", told)
	}
	refused(t, framed(t, slices.Repeat([]string{rowOf(t, l[:400]...)}, 100)...), api.ErrForm)
	refused(t, strings.Repeat(framed(t, ""), 200000), api.ErrForm)
	refused(t, strings.Repeat("\x00", 1<<20), api.ErrForm)
}

// TestP1OpenOfAny opens what has no pattern, with and without frames about it, and files of which some bytes are others.
func TestP1OpenOfAny(t *testing.T) {
	for seed := range int64(20000) {
		r := rand.New(rand.NewSource(seed))
		b := []byte(noise(r.Intn(60), seed))
		for k := range b {
			b[k] %= byte(2 + seed%5)
		}
		anyFile(t, string(b))
		anyFile(t, framed(t, string(b), filter.Build([]string{""}), "\x01\x00"))
		parts := partsOf(t, randomEntries(r, 12))
		for range 1 + r.Intn(2) {
			i := r.Intn(len(parts))
			part := []byte(parts[i])
			part[r.Intn(len(part))] = byte(r.Intn(1 << (1 + r.Intn(8))))
			parts[i] = string(part)
		}
		anyFile(t, framed(t, parts...))
	}
}

// anyFile opens what may be a file or not: it is one if it is what its entries are built as.
func anyFile(t *testing.T, s string) {
	t.Helper()
	x, e := Open(s)
	if e == api.OK {
		build(t, x.Between("", ""), s, api.OK)
		return
	}
	if x != nil || e != api.ErrForm && e != api.ErrSum {
		t.Errorf("Open(%.60q): %v", s, e)
	}
	if _, _, scanned := check.Scan(s); scanned == api.OK && e != api.ErrForm {
		t.Errorf("Open(%.60q): %v, of whole frames", s, e)
	}
}
