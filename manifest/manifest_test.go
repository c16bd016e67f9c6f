package manifest

import (
	"slices"
	"strconv"
	"strings"
	"testing"

	"moult/api"
	"moult/check"
	"moult/file"
	"moult/journal"
)

var first = State{Next: 1, Log: 1}

func room(t *testing.T, n int) *file.FS {
	t.Helper()
	f, e := file.New(n)
	done(t, e)
	return f
}

func done(t *testing.T, l ...api.Errno) {
	t.Helper()
	for i, e := range l {
		if e != api.OK {
			t.Fatalf("call %d: %v", i, e)
		}
	}
}

func is(t *testing.T, what string, e, want api.Errno) {
	t.Helper()
	if e != want {
		t.Errorf("%s: %v, not %v", what, e, want)
	}
}

// opens opens a manifest, which must have this state.
func opens(t *testing.T, f *file.FS, want State) *Manifest {
	t.Helper()
	m, e := Open(f)
	if m == nil || e != api.OK {
		t.Fatalf("Open: %v %v", m, e)
	}
	has(t, m, want)
	return m
}

func fails(t *testing.T, f *file.FS, want api.Errno) {
	t.Helper()
	if m, e := Open(f); m != nil || e != want {
		t.Errorf("Open: %v %v, not %v", m, e, want)
	}
}

func has(t *testing.T, m *Manifest, want State) {
	t.Helper()
	if s := m.State(); !same(s, want) {
		t.Errorf("state %.200v, not %.200v", s, want)
	}
}

func names(t *testing.T, f *file.FS, want ...string) {
	t.Helper()
	if l := f.Names(); !slices.Equal(l, want) {
		t.Errorf("files %q, not %q", l, want)
	}
}

// frame is that of a batch.
func frame(t *testing.T, l ...string) string {
	t.Helper()
	b, e := journal.Batch(l)
	done(t, e)
	s, e := check.Frame(b)
	done(t, e)
	return s
}

// holds tells whether a file is of the frames of these states, each in a batch of its own.
func holds(t *testing.T, f *file.FS, name string, l ...State) {
	t.Helper()
	want := ""
	for _, s := range l {
		want += frame(t, encoded(s))
	}
	if s, e := f.Get(name); s != want || e != api.OK {
		t.Errorf("%s: %.60q %v, not %.60q", name, s, e, want)
	}
}

// numbered is a state that can follow all those of lesser numbers.
func numbered(n int) State {
	return State{Files: places(n, n%4), Next: n + 1, Seq: 2 * n, Log: 1 + n/3, Meta: strings.Repeat("m", n)}
}

func TestDocument(t *testing.T) {
	f := room(t, 100000)
	m := opens(t, f, first)
	s := State{Next: 3, Seq: 5, Log: 1, Files: places(1, 0, 2, 1)}
	is(t, "Set", m.Set(s), api.OK)
	m = opens(t, f, s)
	is(t, "Set of Next 2", m.Set(State{Next: 2, Seq: 5, Log: 1}), api.ErrArg)
	if text, e := Pack(State{Files: places(2, 0, 1, 0), Next: 3, Log: 1}); text != "" || e != api.ErrArg {
		t.Errorf("%q %v", text, e)
	}
	if text, e := Pack(opens(t, room(t, 100), first).State()); text != "\x01\x00\x01\x00" || e != api.OK {
		t.Errorf("%q %v", text, e)
	}
}

func TestN2OpenWithoutFiles(t *testing.T) {
	f := room(t, 0)
	m := opens(t, f, first)
	names(t, f, "man.1")
	is(t, "Set", m.Set(first), api.ErrFull)
	// The files of others, and those that are no segments, have nothing to do with it.
	f = room(t, 1000)
	done(t, f.Add("man", "junk"), f.Add("man.01", "junk"), f.Add("man.x", frame(t, encoded(numbered(1)))), f.Add("log.7", "junk"), f.Add("t1", ""))
	opens(t, f, first)
	names(t, f, "log.7", "man", "man.01", "man.1", "man.x", "t1")
}

func TestN2OpenErrors(t *testing.T) {
	f := room(t, 100)
	f.Limit(0)
	fails(t, f, api.ErrDead)
	fails(t, f, api.ErrDead)
	f.Crash(nil, nil)
	opens(t, f, first)
	f = room(t, 1000)
	for i := range 60 {
		done(t, f.Add("t"+strconv.Itoa(i), ""))
	}
	fails(t, f, api.ErrMany)
	good := frame(t, encoded(numbered(1)))
	for bad, want := range map[string]api.Errno{
		good[:3]: api.ErrForm, "\x00": api.ErrForm, "\xf9\xff\xff": api.ErrForm, good[:len(good)-1] + "\x00" + good: api.ErrSum,
	} {
		f = room(t, 1000)
		done(t, f.Add("man.3", good), f.Add("man.4", good+bad), f.Add("man.5", good))
		fails(t, f, want)
		// At the end of all segments it is what a crash left.
		done(t, f.Drop("man.5"))
		opens(t, f, numbered(1))
		holds(t, f, "man.4", numbered(1))
	}
	for limit := range 2 {
		f = room(t, 1000)
		done(t, f.Add("man.3", good), f.Add("man.4", "junk"))
		f.Limit(limit)
		fails(t, f, api.ErrDead)
	}
}

// TestN2OpenOfBatches: the last batch of one string that is a state tells it, whatever stands ahead of it and behind it.
func TestN2OpenOfBatches(t *testing.T) {
	a, b, c := encoded(numbered(1)), encoded(numbered(2)), encoded(numbered(3))
	for _, x := range []struct {
		batches [][]string
		want    State
	}{
		{nil, first},
		{[][]string{nil}, first},
		{[][]string{{""}}, first},
		{[][]string{{"junk"}, {a, b}, {a, a}, nil}, first},
		{[][]string{{a}}, numbered(1)},
		{[][]string{{a}, {b}}, numbered(2)},
		{[][]string{{b}, {a}}, numbered(1)},
		{[][]string{{c}, {b}, {a}, {c}, {b}}, numbered(2)},
		{[][]string{{a}, {"junk"}, {b, b}, {b, ""}, {"", b}, nil, {""}, {a[:3]}}, numbered(1)},
		{[][]string{{b}, {encoded(State{Next: 9})}, {encoded(State{Next: 5, Log: 1, Files: places(5, 0)})}}, numbered(2)},
		{[][]string{{b}, {encoded(State{Next: 1, Log: 1, Meta: x(30001)})}}, numbered(2)},
		{[][]string{{"junk"}, {"\x01\x00\x01\x00"}}, first},
		{[][]string{{a}, {"\x01\x00\x01\x00"}}, first},
		{[][]string{{a}, {"\x01\x00\x01\x00x"}}, State{Next: 1, Log: 1, Meta: "x"}},
	} {
		for _, most := range []int{1, 100, 100000} {
			f := room(t, 1000000)
			j, _, e := journal.Open(f, "man", most)
			done(t, e)
			for _, l := range x.batches {
				done(t, j.Write(l))
			}
			opens(t, f, x.want)
		}
	}
	// In the order of the segments' numbers, not of their names.
	f := room(t, 1000)
	done(t, f.Add("man.10", frame(t, b)), f.Add("man.9", frame(t, a)), f.Add("man.2", frame(t, c)))
	opens(t, f, numbered(2))
}

func TestN2State(t *testing.T) {
	f := room(t, 100000)
	s := State{Files: places(1, 0, 2, 1, 7, 3)[:2], Next: 9, Log: 1}
	m := opens(t, f, first)
	is(t, "Set", m.Set(s), api.OK)
	want := State{Files: places(1, 0, 2, 1), Next: 9, Log: 1}
	if s.Files = s.Files[:3]; !slices.Equal(s.Files, places(1, 0, 2, 1, 7, 3)) {
		t.Errorf("%v", s.Files)
	}
	clear(s.Files)
	has(t, m, want)
	l := m.State().Files
	clear(l[:cap(l)])
	has(t, m, want)
	l = opens(t, f, want).State().Files
	clear(l[:cap(l)])
	opens(t, f, want)
}

func TestN3SetErrArg(t *testing.T) {
	f := room(t, 1000000)
	m := opens(t, f, first)
	now := State{Files: places(5, 1), Next: 10, Seq: 20, Log: 30, Meta: "m"}
	done(t, m.Set(now))
	before, _ := f.Get("man.2")
	for name, s := range wrong() {
		if s.Next >= 0 && s.Next < great-10 {
			// So that nothing but what is wrong of it is less.
			s.Seq, s.Log = max(s.Seq, 20), max(s.Log, 30)
		}
		is(t, name, m.Set(s), api.ErrArg)
	}
	for _, s := range []State{
		{Next: 9, Seq: 20, Log: 30}, {Next: 10, Seq: 19, Log: 30}, {Next: 10, Seq: 20, Log: 29}, {Next: 1, Log: 1},
		{Next: 9, Seq: 21, Log: 31}, {Next: 11, Seq: 19, Log: 31}, {Next: 11, Seq: 21, Log: 29},
		{Next: 10, Seq: 20}, {Next: great, Log: great}, {Next: great, Seq: great, Log: 1},
	} {
		is(t, "less", m.Set(s), api.ErrArg)
	}
	has(t, m, now)
	if s, _ := f.Get("man.2"); s != before {
		t.Errorf("%q", s)
	}
	names(t, f, "man.2")
	for _, s := range []State{now, {Next: 11, Seq: 20, Log: 30}, {Next: 11, Seq: 21, Log: 30}, {Next: 11, Seq: 21, Log: 31}, {Next: great, Seq: great, Log: great, Meta: x(30000)}} {
		is(t, "not less", m.Set(s), api.OK)
		has(t, m, s)
		opens(t, f, s)
	}
}

// TestN3SetErrArgIsNotCounted: ahead of the first call, and of the ninth one, many are wrong.
func TestN3SetErrArgIsNotCounted(t *testing.T) {
	f := room(t, 1000000)
	m := opens(t, f, first)
	for i := 1; i <= 30; i++ {
		for range i {
			is(t, "invalid", m.Set(State{}), api.ErrArg)
			is(t, "long", m.Set(State{Next: great, Seq: great, Log: great, Meta: x(30001)}), api.ErrArg)
			if i > 1 {
				is(t, "less", m.Set(numbered(i-2)), api.ErrArg)
			}
		}
		done(t, m.Set(numbered(i)))
		names(t, f, "man."+strconv.Itoa(2+(i-1)/8))
	}
}

func TestN3SetTurns(t *testing.T) {
	f := room(t, 1000000)
	m := opens(t, f, first)
	var now []State
	for i := 1; i <= 41; i++ {
		if i%8 == 1 {
			now = nil
		}
		now = append(now, numbered(i))
		done(t, m.Set(numbered(i)))
		has(t, m, numbered(i))
		name := "man." + strconv.Itoa(2+(i-1)/8)
		names(t, f, name)
		holds(t, f, name, now...)
	}
	// Calls are counted from Open on.
	for i := 1; i <= 10; i++ {
		m = opens(t, f, numbered(40+i))
		done(t, m.Set(numbered(41+i)))
		names(t, f, "man."+strconv.Itoa(7+i))
		holds(t, f, "man."+strconv.Itoa(7+i), numbered(41+i))
	}
	for i := 2; i <= 8; i++ {
		done(t, m.Set(numbered(60+i)))
		names(t, f, "man.17")
	}
	done(t, m.Set(numbered(69)))
	names(t, f, "man.18")
	holds(t, f, "man.18", numbered(69))
}

// of is a state with so many bytes of Meta.
func of(n int) State { return State{Next: 1, Log: 1, Meta: x(n)} }

// TestN3SetOfFull: of a segment with 100000 bytes Write turns away as well, after which nothing is trimmed.
func TestN3SetOfFull(t *testing.T) {
	f := room(t, 1000000)
	m := opens(t, f, first)
	for i := 1; i <= 33; i++ {
		done(t, m.Set(of(30000)))
		n := 2 + (i-1)/8*2
		switch i % 8 {
		case 1, 2, 3, 4:
			names(t, f, "man."+strconv.Itoa(n))
		default:
			names(t, f, "man."+strconv.Itoa(n), "man."+strconv.Itoa(n+1))
		}
	}
	has(t, m, of(30000))
}

// TestN3SetOfExactlyFull goes up to 100000 bytes to the byte: one less, and the next state goes into the same segment.
func TestN3SetOfExactlyFull(t *testing.T) {
	big := len(frame(t, encoded(of(30000))))
	for size, want := range map[int][]string{99998: {"man.2"}, 99999: {"man.2"}, 100000: {"man.2", "man.3"}, 100001: {"man.2", "man.3"}} {
		f := room(t, 1000000)
		m := opens(t, f, first)
		// A state of so many bytes has fewer of them as Meta, as many fewer as one of 5000 has.
		n := size - 3*big
		n -= len(frame(t, encoded(of(5000)))) - 5000
		done(t, m.Set(of(30000)), m.Set(of(30000)), m.Set(of(30000)), m.Set(of(n)))
		if s, _ := f.Get("man.2"); len(s) != size {
			t.Fatalf("%d bytes, not %d", len(s), size)
		}
		done(t, m.Set(of(1)))
		names(t, f, want...)
	}
}

// TestN3SetErrors: a call whose Turn or Write fails is counted, and the state stays.
func TestN3SetErrors(t *testing.T) {
	f := room(t, 1000000)
	m := opens(t, f, first)
	for i := range 59 {
		done(t, f.Add("t"+strconv.Itoa(i), ""))
	}
	is(t, "no room for a segment", m.Set(numbered(1)), api.ErrMany)
	has(t, m, first)
	holds(t, f, "man.1")
	for i := 2; i <= 8; i++ {
		is(t, "Set", m.Set(numbered(i)), api.OK)
		has(t, m, numbered(i))
	}
	is(t, "the ninth", m.Set(numbered(9)), api.ErrMany)
	is(t, "wrong", m.Set(State{}), api.ErrArg)
	has(t, m, numbered(8))
	done(t, f.Drop("t7"), m.Set(numbered(10)))
	if _, e := f.Get("man.2"); e != api.ErrNone {
		t.Errorf("man.2: %v", e)
	}
	opens(t, f, numbered(10))

	// Without room for the bytes the Turn stays, and nothing is trimmed.
	f = room(t, 100)
	m = opens(t, f, first)
	is(t, "no room", m.Set(numbered(90)), api.ErrFull)
	names(t, f, "man.1", "man.2")
	has(t, m, first)
	opens(t, f, first)
	is(t, "a second one", m.Set(numbered(1)), api.OK)
	names(t, f, "man.1", "man.2")
	holds(t, f, "man.2", numbered(1))
	has(t, m, numbered(1))
	is(t, "no room", m.Set(numbered(90)), api.ErrFull)
	has(t, m, numbered(1))
	opens(t, f, numbered(1))
	// So many bytes as the ones that it would trim are not there for it.
	for i := 4; i <= 8; i++ {
		is(t, "no room", m.Set(numbered(80)), api.ErrFull)
	}
	is(t, "the ninth", m.Set(numbered(2)), api.OK)
	names(t, f, "man.3")
}

// TestN3SetAndLimit stops the power at each turn of a Set that turns, with three segments to trim, and of one that doesn't.
func TestN3SetAndLimit(t *testing.T) {
	for limit, want := range [][]string{
		{"man.1", "man.2", "man.3"}, {"man.1", "man.2", "man.3", "man.4"}, {"man.1", "man.2", "man.3", "man.4"},
		{"man.1", "man.2", "man.3", "man.4"}, {"man.2", "man.3", "man.4"}, {"man.3", "man.4"}, {"man.4"},
	} {
		f := room(t, 10000)
		done(t, f.Add("man.1", ""), f.Add("man.2", frame(t, encoded(numbered(1)))), f.Flush("man.2"), f.Add("man.3", ""))
		m := opens(t, f, numbered(1))
		f.Limit(limit)
		wantE, now := api.ErrDead, numbered(1)
		if limit == 6 {
			wantE = api.OK
		}
		is(t, "Set", m.Set(numbered(2)), wantE)
		if names(t, f, want...); limit >= 3 {
			now = numbered(2)
		}
		has(t, m, now)
		if limit < 6 {
			is(t, "without power, wrong", m.Set(State{}), api.ErrArg)
			is(t, "without power, less", m.Set(numbered(0)), api.ErrArg)
			is(t, "without power", m.Set(numbered(3)), api.ErrDead)
			has(t, m, now)
		}
		f.Crash(nil, nil)
		opens(t, f, now)
	}
	for limit := range 3 {
		f := room(t, 10000)
		m := opens(t, f, first)
		done(t, m.Set(numbered(1)))
		f.Limit(limit)
		if limit < 2 {
			is(t, "Set", m.Set(numbered(2)), api.ErrDead)
			has(t, m, numbered(1))
		} else {
			is(t, "Set", m.Set(numbered(2)), api.OK)
			has(t, m, numbered(2))
		}
		names(t, f, "man.2")
	}
}

func TestN3SetBehindLastSegment(t *testing.T) {
	f := room(t, 1000)
	done(t, f.Add("man.9999999", ""))
	m := opens(t, f, first)
	is(t, "Set", m.Set(numbered(1)), api.ErrMany)
	has(t, m, first)
	is(t, "Set", m.Set(numbered(2)), api.OK)
	opens(t, f, numbered(2))
}

func TestP1ManifestNotOpened(t *testing.T) {
	m := new(Manifest)
	has(t, m, State{})
	is(t, "wrong", m.Set(State{}), api.ErrArg)
	is(t, "Set", m.Set(numbered(1)), api.ErrNone)
	has(t, m, State{})
}
