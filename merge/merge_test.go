package merge

import (
	"cmp"
	"math"
	"math/rand"
	"slices"
	"strconv"
	"strings"
	"testing"
	"time"

	"moult/api"
)

// row is the entries of a text: of each word the first byte is the key, then stands the seq, then ! of a tombstone.
func row(s string) []api.Entry {
	var l []api.Entry
	for _, word := range strings.Fields(s) {
		number, isDead := strings.CutSuffix(word[1:], "!")
		seq, err := strconv.Atoi(number)
		if err != nil {
			panic(err)
		}
		if isDead {
			l = append(l, dead(word[:1], seq))
		} else {
			l = append(l, live(word[:1], seq, "data of "+word))
		}
	}
	return l
}

func rows(texts ...string) [][]api.Entry {
	var l [][]api.Entry
	for _, s := range texts {
		l = append(l, row(s))
	}
	return l
}

func live(key string, seq int, data string) api.Entry {
	return api.Entry{Key: key, Seq: seq, Data: data}
}

func dead(key string, seq int) api.Entry {
	return api.Entry{Key: key, Seq: seq, Dead: true}
}

func sortedIs(t *testing.T, l []api.Entry, want bool) {
	t.Helper()
	if Sorted(l) != want {
		t.Errorf("Sorted(%.200v): %v", l, !want)
	}
}

func mergeIs(t *testing.T, l [][]api.Entry, want []api.Entry) {
	t.Helper()
	if got := Merge(l); !slices.Equal(got, want) {
		t.Errorf("Merge(%.200v): %.200v, not %.200v", l, got, want)
	}
}

func visibleIs(t *testing.T, l []api.Entry, at int, want []api.Entry) {
	t.Helper()
	if got := Visible(l, at); !slices.Equal(got, want) {
		t.Errorf("Visible(%.200v, %d): %.200v, not %.200v", l, at, got, want)
	}
}

func thinIs(t *testing.T, l []api.Entry, shots []int, last bool, want []api.Entry) {
	t.Helper()
	if got := Thin(l, shots, last); !slices.Equal(got, want) {
		t.Errorf("Thin(%.200v, %v, %v): %.200v, not %.200v", l, shots, last, got, want)
	}
}

// place is what no two entries of a sorted row have in common.
type place struct {
	key string
	seq int
}

func inOrder(l []api.Entry) []api.Entry {
	ordered := slices.Clone(l)
	slices.SortFunc(ordered, func(a, b api.Entry) int {
		return cmp.Or(strings.Compare(a.Key, b.Key), cmp.Compare(b.Seq, a.Seq))
	})
	return ordered
}

// mergedOf is what Merge has to answer, as the chapter's words say.
func mergedOf(rows [][]api.Entry) []api.Entry {
	there := map[place]bool{}
	var l []api.Entry
	for _, row := range rows {
		for _, e := range row {
			if p := (place{e.Key, e.Seq}); !there[p] {
				there[p] = true
				l = append(l, e)
			}
		}
	}
	return inOrder(l)
}

// keysOf are the keys of entries, each once.
func keysOf(l []api.Entry) []string {
	var keys []string
	for _, e := range l {
		keys = append(keys, e.Key)
	}
	slices.Sort(keys)
	return slices.Compact(keys)
}

// newest is the entry of the key with the greatest seq that is at most at.
func newest(l []api.Entry, key string, at int) (found api.Entry, ok bool) {
	for _, e := range l {
		if e.Key == key && e.Seq <= at && (!ok || e.Seq > found.Seq) {
			found, ok = e, true
		}
	}
	return found, ok
}

// visibleOf is what Visible has to answer, as the chapter's words say.
func visibleOf(l []api.Entry, at int) []api.Entry {
	var seen []api.Entry
	for _, key := range keysOf(l) {
		if e, ok := newest(l, key, at); ok && !e.Dead {
			seen = append(seen, e)
		}
	}
	return seen
}

// thinOf is what Thin has to answer, as the chapter's words say.
func thinOf(l []api.Entry, shots []int, last bool) []api.Entry {
	var left []api.Entry
	for _, key := range keysOf(l) {
		var needed []api.Entry
		for _, at := range append([]int{math.MaxInt}, shots...) {
			if e, ok := newest(l, key, at); ok && !slices.Contains(needed, e) {
				needed = append(needed, e)
			}
		}
		needed = inOrder(needed)
		for last && len(needed) > 0 && needed[len(needed)-1].Dead {
			needed = needed[:len(needed)-1]
		}
		left = append(left, needed...)
	}
	return left
}

// randomRow is a sorted row of few keys and seqs, some of them such as no valid entry has.
func randomRow(r *rand.Rand, n int) []api.Entry {
	keys := []string{"", "\x00", "\x00\xff", "a", "a\x00", "a\xff", "aa", "b", "é", "\xff", "\xff\xff", strings.Repeat("x", 1300)}
	there := map[place]bool{}
	var l []api.Entry
	for range n {
		p := place{keys[r.Intn(len(keys))], []int{1 + r.Intn(9), r.Intn(9) - 4, 1<<40 - r.Intn(3), math.MinInt + r.Intn(2), math.MaxInt - r.Intn(2)}[max(0, r.Intn(12)-7)]}
		if there[p] {
			continue
		}
		there[p] = true
		if r.Intn(2) == 0 {
			l = append(l, dead(p.key, p.seq))
		} else {
			l = append(l, live(p.key, p.seq, strconv.Itoa(r.Intn(1000))))
		}
	}
	return inOrder(l)
}

func randomRows(r *rand.Rand, n int) [][]api.Entry {
	var l [][]api.Entry
	for range n {
		l = append(l, randomRow(r, r.Intn(30)))
	}
	return l
}

// randomShots are in no order, and some stand twice.
func randomShots(r *rand.Rand) []int {
	var shots []int
	for range r.Intn(8) {
		shots = append(shots, []int{r.Intn(12), r.Intn(12), -r.Intn(5), 1<<40 - r.Intn(4), math.MinInt + r.Intn(2), math.MaxInt - r.Intn(2)}[r.Intn(6)])
	}
	return shots
}

// seqsAbout are the seqs of entries, and those next to them.
func seqsAbout(l []api.Entry) []int {
	seqs := []int{math.MinInt, -1, 0, 1, 1 << 40, math.MaxInt}
	for _, e := range l {
		seqs = append(seqs, e.Seq, max(e.Seq, math.MinInt+1)-1, min(e.Seq, math.MaxInt-1)+1)
	}
	slices.Sort(seqs)
	return slices.Compact(seqs)
}

// TestDocument is the chapter's examples.
func TestDocument(t *testing.T) {
	that := row("a5! a3 b4")
	visibleIs(t, that, 9, row("b4"))
	visibleIs(t, that, 4, row("a3 b4"))
	mergeIs(t, rows("b4", "a5! a3"), that)
	thinIs(t, that, nil, false, row("a5! b4"))
	thinIs(t, that, []int{4}, false, that)
	thinIs(t, that, nil, true, row("b4"))
}

func TestG1Sorted(t *testing.T) {
	for s, want := range map[string]bool{
		"": true, "a1": true, "a1!": true, "a2 a1": true, "a2! a1": true, "a2 a1!": true, "a9 b9": true, "a1 b9 c5 c4": true,
		"a1 a2": false, "a1 a2!": false, "b1 a1": false, "b1 a9": false, "b9 a1": false,
		"a1 a1": false, "a1 a1!": false, "a1! a1": false, "a1! a1!": false,
		"a9 a8 a7 b1 a6": false, "a9 a8 a7 b1 b1": false, "b1 a9 a8 a7": false, "a9 a8 a8 a7": false, "a7 a8 b1 c1": false,
	} {
		sortedIs(t, row(s), want)
	}
	sortedIs(t, []api.Entry{}, true)
	// The bytes of a key have no sign, and a shorter key stands ahead.
	byBytes := []api.Entry{dead("", 1), dead("\x00", 1), dead("\x00\x00", 1), dead("Z", 1), dead("a", 1), dead("a\x00", 1), dead("aa", 1), dead("é", 1), dead("\xff", 1)}
	sortedIs(t, byBytes, true)
	for i := 1; i < len(byBytes); i++ {
		sortedIs(t, []api.Entry{byBytes[i], byBytes[i-1]}, false)
	}
	// Entries need not be valid.
	sortedIs(t, []api.Entry{live("a", math.MaxInt, ""), dead("a", 1<<40), live("a", 0, "r"), live("a", -1, ""), live("a", math.MinInt, "")}, true)
	sortedIs(t, []api.Entry{dead("a", math.MinInt), dead("a", math.MaxInt)}, false)
	sortedIs(t, []api.Entry{dead("a", -1), dead("a", 0)}, false)
	// Data don't count.
	sortedIs(t, []api.Entry{live("a", 1, "s"), live("a", 1, "r")}, false)
	sortedIs(t, []api.Entry{live("a", 1, "r"), live("a", 1, "s")}, false)
}

// TestG1SortedOfAll spoils sorted rows in each place.
func TestG1SortedOfAll(t *testing.T) {
	for seed := range 20 {
		l := randomRow(rand.New(rand.NewSource(int64(seed))), 30)
		sortedIs(t, l, true)
		for i := 1; i < len(l); i++ {
			sortedIs(t, l[i:], true)
			sortedIs(t, slices.Concat(l[:i], l[i-1:]), false)
			l[i-1], l[i] = l[i], l[i-1]
			sortedIs(t, l, false)
			l[i-1], l[i] = l[i], l[i-1]
		}
	}
}

func TestG1Merge(t *testing.T) {
	for _, c := range []struct {
		l    []string
		want string
	}{
		{nil, ""},
		{[]string{""}, ""},
		{[]string{"", "", ""}, ""},
		{[]string{"a5 a3! b1"}, "a5 a3! b1"},
		{[]string{"a5 a3! b1", ""}, "a5 a3! b1"},
		{[]string{"", "a5 a3! b1"}, "a5 a3! b1"},
		{[]string{"a1", "b1"}, "a1 b1"},
		{[]string{"b1", "a1"}, "a1 b1"},
		{[]string{"a1", "a2"}, "a2 a1"},
		{[]string{"a2", "a1"}, "a2 a1"},
		{[]string{"a2!", "a1!"}, "a2! a1!"},
		{[]string{"b9 c1", "a1 d7!"}, "a1 b9 c1 d7!"},
		{[]string{"c9", "b9", "a9", "a7 c8"}, "a9 a7 b9 c9 c8"},
		{[]string{"a9 a7 a5 a3 a1", "a8 a6 a4 a2"}, "a9 a8 a7 a6 a5 a4 a3 a2 a1"},
		{[]string{"e1", "d1", "c1", "b1", "a1"}, "a1 b1 c1 d1 e1"},
		{[]string{"a1", "", "b1", "", "", "c1", ""}, "a1 b1 c1"},
	} {
		mergeIs(t, rows(c.l...), row(c.want))
	}
}

// TestG1MergeOfAlike: of entries with the same key and seq that of the first row is taken, however they differ otherwise.
func TestG1MergeOfAlike(t *testing.T) {
	for _, c := range []struct {
		l    []string
		want string
	}{
		{[]string{"a1", "a1"}, "a1"},
		{[]string{"a1", "a1!"}, "a1"},
		{[]string{"a1!", "a1"}, "a1!"},
		{[]string{"", "a1", "a1!"}, "a1"},
		{[]string{"a1!", "", "a1"}, "a1!"},
		{[]string{"a2", "a1!", "a1"}, "a2 a1!"},
		{[]string{"a1", "a1!", "a1!", "a1!"}, "a1"},
		{[]string{"b1", "a1!", "a1", "a1"}, "a1! b1"},
		{[]string{"b1", "c1", "a1!", "a1", "a1"}, "a1! b1 c1"},
		{[]string{"a3 a2 a1", "a3! a2! a1!"}, "a3 a2 a1"},
		{[]string{"a2!", "a3 a1", "a3! a2 a1!"}, "a3 a2! a1"},
		{[]string{"a3 c3!", "b3 c3", "a3! b3! c3"}, "a3 b3 c3!"},
	} {
		mergeIs(t, rows(c.l...), row(c.want))
	}
	for n := range 9 {
		l := make([][]api.Entry, n+1)
		for i := range l {
			l[i] = []api.Entry{live("k", 7, strconv.Itoa(i)), live("l", i/2, strconv.Itoa(i))}
		}
		mergeIs(t, l, mergedOf(l))
		if m := Merge(l); m[0].Data != "0" {
			t.Errorf("of %d rows that of row %s", len(l), m[0].Data)
		}
	}
}

func TestG1MergeOfAll(t *testing.T) {
	for seed := range 300 {
		r := rand.New(rand.NewSource(int64(seed)))
		l := randomRows(r, r.Intn(12))
		mergeIs(t, l, mergedOf(l))
		sortedIs(t, Merge(l), true)
	}
}

func TestG2Visible(t *testing.T) {
	l := row("a9! a5 a3! b4 c7! c6! d1")
	for at, want := range map[int]string{math.MaxInt: "b4 d1", 10: "b4 d1", 9: "b4 d1", 8: "a5 b4 d1", 7: "a5 b4 d1", 5: "a5 b4 d1", 4: "b4 d1", 3: "d1", 1: "d1", 0: "", -1: "", math.MinInt: ""} {
		visibleIs(t, l, at, row(want))
	}
	for _, at := range []int{math.MinInt, 0, 9, math.MaxInt} {
		visibleIs(t, nil, at, nil)
		visibleIs(t, []api.Entry{}, at, nil)
	}
	greatest := []api.Entry{live("", math.MaxInt, "r"), dead("", 0), live("", -5, ""), live("", math.MinInt, "s"), live("\x00", 1<<40, "")}
	visibleIs(t, greatest, math.MaxInt, []api.Entry{greatest[0], greatest[4]})
	visibleIs(t, greatest, math.MaxInt-1, greatest[4:])
	visibleIs(t, greatest, 1<<40-1, nil)
	visibleIs(t, greatest, -1, greatest[2:3])
	visibleIs(t, greatest, -5, greatest[2:3])
	visibleIs(t, greatest, -6, greatest[3:4])
	visibleIs(t, greatest, math.MinInt, greatest[3:4])
}

func TestG2VisibleOfAll(t *testing.T) {
	for seed := range 100 {
		l := randomRow(rand.New(rand.NewSource(int64(seed))), seed)
		for _, at := range seqsAbout(l) {
			visibleIs(t, l, at, visibleOf(l, at))
		}
	}
}

func TestG3Thin(t *testing.T) {
	l := row("a9! a5 a3! b4 b3 b2 c7! c6! d1")
	for _, c := range []struct {
		shots []int
		last  bool
		want  string
	}{
		{nil, false, "a9! b4 c7! d1"},
		{nil, true, "b4 d1"},
		{[]int{}, true, "b4 d1"},
		{[]int{9}, false, "a9! b4 c7! d1"},
		{[]int{8}, false, "a9! a5 b4 c7! d1"},
		{[]int{5}, false, "a9! a5 b4 c7! d1"},
		{[]int{5}, true, "a9! a5 b4 d1"},
		{[]int{4}, false, "a9! a3! b4 c7! d1"},
		{[]int{4}, true, "b4 d1"},
		{[]int{3}, false, "a9! a3! b4 b3 c7! d1"},
		{[]int{6}, false, "a9! a5 b4 c7! c6! d1"},
		{[]int{6}, true, "a9! a5 b4 d1"},
		{[]int{2}, true, "b4 b2 d1"},
		{[]int{1}, true, "b4 d1"},
		{[]int{0, -1, math.MinInt}, false, "a9! b4 c7! d1"},
		{[]int{3, 8, 3}, false, "a9! a5 a3! b4 b3 c7! d1"},
		{[]int{3, 8}, true, "a9! a5 b4 b3 d1"},
		{[]int{5, 3, 4}, true, "a9! a5 b4 b3 d1"},
		{[]int{2, 3, 5, 6}, false, "a9! a5 a3! b4 b3 b2 c7! c6! d1"},
		{[]int{6, 5, 3, 2}, false, "a9! a5 a3! b4 b3 b2 c7! c6! d1"},
		{[]int{6, 5, 3, 2}, true, "a9! a5 b4 b3 b2 d1"},
		{[]int{-5, 99, 6}, true, "a9! a5 b4 d1"},
		{[]int{math.MaxInt}, false, "a9! b4 c7! d1"},
	} {
		thinIs(t, l, c.shots, c.last, row(c.want))
	}
	for _, last := range []bool{false, true} {
		thinIs(t, nil, nil, last, nil)
		thinIs(t, []api.Entry{}, []int{1, math.MaxInt}, last, nil)
	}
}

// TestG3ThinOfTombstones: of the ones that are left none stands at the end of a key if last is set, whatever stands ahead.
func TestG3ThinOfTombstones(t *testing.T) {
	for _, c := range []struct {
		l     string
		shots []int
		want  string
	}{
		{"a1!", nil, ""},
		{"a1", nil, "a1"},
		{"a1! b1! c1!", nil, ""},
		{"a1! b1 c1!", nil, "b1"},
		{"a3! a2! a1!", []int{1, 2}, ""},
		{"a3! a2! a1", []int{1, 2}, "a3! a2! a1"},
		{"a3! a2! a1", []int{2}, ""},
		{"a3 a2! a1", []int{2}, "a3"},
		{"a3 a2! a1", []int{1}, "a3 a1"},
		{"a3! a2 a1!", []int{1, 2}, "a3! a2"},
		{"a5! a4 a3! a2! b5! b4 b3! b2 c1!", []int{4, 3, 2}, "a5! a4 b5! b4 b3! b2"},
		{"a5! b1", []int{4}, "b1"},
	} {
		thinIs(t, row(c.l), c.shots, true, row(c.want))
	}
}

func TestG3ThinOfGreatest(t *testing.T) {
	l := []api.Entry{live("", math.MaxInt, "r"), dead("", 1<<40), live("", 0, "s"), live("", -5, ""), dead("", math.MinInt), dead("\x00", math.MinInt)}
	thinIs(t, l, nil, false, []api.Entry{l[0], l[5]})
	thinIs(t, l, nil, true, l[:1])
	thinIs(t, l, []int{math.MaxInt}, true, l[:1])
	thinIs(t, l, []int{math.MaxInt - 1}, false, []api.Entry{l[0], l[1], l[5]})
	thinIs(t, l, []int{math.MaxInt - 1}, true, l[:1])
	thinIs(t, l, []int{math.MinInt}, false, []api.Entry{l[0], l[4], l[5]})
	thinIs(t, l, []int{math.MinInt}, true, l[:1])
	thinIs(t, l, []int{-5, -6}, false, []api.Entry{l[0], l[3], l[4], l[5]})
	thinIs(t, l, []int{-1, math.MinInt, math.MaxInt, 3, 1 << 40}, false, l)
	thinIs(t, l, []int{-1, math.MinInt, math.MaxInt, 3, 1 << 40}, true, l[:4])
}

func TestG3ThinOfAll(t *testing.T) {
	for seed := range 500 {
		r := rand.New(rand.NewSource(int64(seed)))
		l, shots := randomRow(r, r.Intn(80)), randomShots(r)
		for _, last := range []bool{false, true} {
			thinIs(t, l, shots, last, thinOf(l, shots, last))
		}
		each := seqsAbout(l)
		thinIs(t, l, each, false, l)
	}
}

// TestG4VisibleOfThin asks for what is seen of what Thin left, at each shot, and at what is not less than any seq.
func TestG4VisibleOfThin(t *testing.T) {
	for seed := range 300 {
		r := rand.New(rand.NewSource(int64(seed)))
		l, shots := randomRow(r, r.Intn(80)), randomShots(r)
		greatest := math.MinInt
		for _, e := range l {
			greatest = max(greatest, e.Seq)
		}
		for _, last := range []bool{false, true} {
			left := Thin(l, shots, last)
			sortedIs(t, left, true)
			for _, at := range append(shots, greatest, math.MaxInt) {
				visibleIs(t, left, at, Visible(l, at))
			}
			thinIs(t, left, shots, last, left)
		}
	}
}

// TestG4AnyOrderOfRows merges rows that have no key and seq in common, however they stand.
func TestG4AnyOrderOfRows(t *testing.T) {
	for seed := range 100 {
		r := rand.New(rand.NewSource(int64(seed)))
		whole := randomRow(r, 80)
		parts := make([][]api.Entry, 1+r.Intn(7))
		for _, e := range whole {
			i := r.Intn(len(parts))
			parts[i] = append(parts[i], e)
		}
		for range 10 {
			r.Shuffle(len(parts), func(i, j int) { parts[i], parts[j] = parts[j], parts[i] })
			mergeIs(t, parts, whole)
		}
	}
}

// TestP1NotSorted: whatever rows there are, each call ends with some answer, and with the same one each time.
func TestP1NotSorted(t *testing.T) {
	for seed := range 200 {
		r := rand.New(rand.NewSource(int64(seed)))
		l, shots := randomRows(r, r.Intn(9)), randomShots(r)
		for i, row := range l {
			l[i] = append(row, row...)
			r.Shuffle(len(l[i]), func(j, k int) { l[i][j], l[i][k] = l[i][k], l[i][j] })
		}
		mergeIs(t, l, Merge(l))
		for _, row := range l {
			sortedIs(t, row, Sorted(row))
			for _, at := range append(shots, 5) {
				visibleIs(t, row, at, Visible(row, at))
			}
			thinIs(t, row, shots, false, Thin(row, shots, false))
			thinIs(t, row, shots, true, Thin(row, shots, true))
		}
	}
}

// TestP1LongLists: many short rows, one long row, many entries of a key and many shots don't take long.
func TestP1LongLists(t *testing.T) {
	begin := time.Now()
	const n = 100000
	single := make([][]api.Entry, n)
	var one []api.Entry
	var shots []int
	for i := range n {
		e := live("k", n-i, "")
		single[n-1-i] = []api.Entry{e}
		one = append(one, e)
		shots = append(shots, (i*7919)%n+1)
	}
	if !slices.Equal(Merge(single), one) || !slices.Equal(Merge([][]api.Entry{one, one}), one) {
		t.Error("Merge of many")
	}
	if !Sorted(one) || !slices.Equal(Visible(one, 1), one[n-1:]) || !slices.Equal(Thin(one, shots, true), one) {
		t.Error("Sorted, Visible or Thin of many")
	}
	if d := time.Since(begin); d > 20*time.Second {
		t.Error(d)
	}
}

// TestP3AnswersAreNew: what is handed in is not changed, nor what lies behind its end, and an answer shares nothing with it.
func TestP3AnswersAreNew(t *testing.T) {
	behind := live("zz", 99, "behind")
	all := append(row("a9! a5 a3! b4 b3 c7! c6! d1"), behind, behind)
	l := all[:len(all)-2]
	shots := []int{8, 3, 5, 77, 77}
	before, shotsBefore := slices.Clone(all), slices.Clone(shots)
	calls := []func() []api.Entry{
		func() []api.Entry { return Merge([][]api.Entry{l}) },
		func() []api.Entry { return Merge([][]api.Entry{l, nil}) },
		func() []api.Entry { return Merge([][]api.Entry{nil, l, l[:0]}) },
		func() []api.Entry { return Merge([][]api.Entry{l[3:], l[:3]}) },
		func() []api.Entry { return Merge([][]api.Entry{l[:3], l[3:]}) },
		func() []api.Entry { return Visible(l[7:], 9) },
		func() []api.Entry { return Visible(l, 8) },
		func() []api.Entry { return Thin(l, shots[:3], false) },
		func() []api.Entry { return Thin(l, shots[:3], true) },
		func() []api.Entry { return Thin(l[7:], nil, true) },
	}
	for i, call := range calls {
		got := call()
		again := slices.Clone(got)
		if len(got) == 0 {
			t.Errorf("call %d: nothing", i)
		}
		whole := got[:cap(got)]
		for j := range whole {
			whole[j] = live("other", -7, "other")
		}
		if !slices.Equal(all, before) || !slices.Equal(shots, shotsBefore) {
			t.Fatalf("call %d changes what was handed in", i)
		}
		if !slices.Equal(call(), again) {
			t.Errorf("call %d: another answer", i)
		}
	}
	Sorted(l)
	if !slices.Equal(all, before) {
		t.Error("Sorted changes what was handed in")
	}
}

// TestP3RowsStay: the list of rows stays as it is, too.
func TestP3RowsStay(t *testing.T) {
	l := rows("c1", "b1 b0", "", "a1")
	whole := append(l, row("x1"))
	before := slices.Clone(whole)
	Merge(whole[:len(l)])
	for i := range whole {
		if !slices.Equal(whole[i], before[i]) {
			t.Errorf("row %d is changed: %v", i, whole[i])
		}
	}
}

// TestKeysEnd: who asks for the keys' entries may stop.
func TestKeysEnd(t *testing.T) {
	var seen [][]api.Entry
	for same := range keys(row("a2 a1 b1 c1")) {
		seen = append(seen, same)
		if len(seen) == 2 {
			break
		}
	}
	if len(seen) != 2 || !slices.Equal(seen[0], row("a2 a1")) || !slices.Equal(seen[1], row("b1")) {
		t.Error(seen)
	}
}

// TestMergedOfOthers: rows are merged by what holds their elements against each other, whatever these are.
func TestMergedOfOthers(t *testing.T) {
	byLength := func(a, b string) bool { return len(a) < len(b) }
	got := merged([][]string{{"bb", "dddd"}, {"a", "xx", "ccc"}, nil, {"", "y"}}, byLength)
	if want := []string{"", "a", "bb", "ccc", "dddd"}; !slices.Equal(got, want) || !sorted(got, byLength) {
		t.Error(got)
	}
	if sorted([]string{"a", "b"}, byLength) || sorted([]string{"aa", "b"}, byLength) {
		t.Error("sorted")
	}
}
