package journal

import (
	"math"
	"slices"
	"strconv"
	"strings"
	"testing"

	"moult/api"
	"moult/check"
	"moult/file"
	"moult/varint"
)

func room(t *testing.T, n int) *file.FS {
	t.Helper()
	f, e := file.New(n)
	if e != api.OK {
		t.Fatal(e)
	}
	return f
}

// with has these files, each written as name=bytes, all of them flushed.
func with(t *testing.T, files ...string) *file.FS {
	t.Helper()
	f := room(t, 1000000)
	for _, x := range files {
		name, s, _ := strings.Cut(x, "=")
		done(t, f.Add(name, s), f.Flush(name))
	}
	return f
}

func done(t *testing.T, l ...api.Errno) {
	t.Helper()
	for i, e := range l {
		if e != api.OK {
			t.Fatalf("call %d: %v", i, e)
		}
	}
}

func is(t *testing.T, what string, e, want api.Errno) {
	t.Helper()
	if e != want {
		t.Errorf("%s: %v, not %v", what, e, want)
	}
}

// framed is the frame of a payload, frame that of a batch.
func framed(t *testing.T, payload string) string {
	t.Helper()
	s, e := check.Frame(payload)
	done(t, e)
	return s
}

func frame(t *testing.T, l ...string) string {
	t.Helper()
	return framed(t, written(l...))
}

// inverted is s with its last bit inverted.
func inverted(s string) string { return s[:len(s)-1] + string([]byte{s[len(s)-1] ^ 1}) }

func same(a, b [][]string) bool { return slices.EqualFunc(a, b, slices.Equal[[]string]) }

// opens opens a journal log, which must have these batches.
func opens(t *testing.T, f *file.FS, most int, want ...[]string) *Journal {
	t.Helper()
	j, l, e := Open(f, "log", most)
	if j == nil || e != api.OK {
		t.Fatalf("Open: %v %v", j, e)
	}
	if !same(l, want) {
		t.Fatalf("Open: %.200q, not %.200q", l, want)
	}
	return j
}

// fails asks for an error of Open.
func fails(t *testing.T, f *file.FS, name string, want api.Errno) {
	t.Helper()
	if j, l, e := Open(f, name, 100); j != nil || len(l) != 0 || e != want {
		t.Errorf("Open of %q: %v %.40q %v, not %v", name, j, l, e, want)
	}
}

// holds tells whether f has these files, each written as name=bytes, and no others.
func holds(t *testing.T, f *file.FS, files ...string) {
	t.Helper()
	var names []string
	for _, x := range files {
		name, s, _ := strings.Cut(x, "=")
		names = append(names, name)
		if got, e := f.Get(name); got != s || e != api.OK {
			t.Errorf("Get(%q): %.60q %v, not %.60q", name, got, e, s)
		}
	}
	slices.Sort(names)
	if l := f.Names(); !slices.Equal(l, names) {
		t.Errorf("names: %q, not %q", l, names)
	}
}

func has(t *testing.T, j *Journal, want ...int) {
	t.Helper()
	if l, n := j.Segments(), j.Number(); !slices.Equal(l, want) || len(want) > 0 && n != want[len(want)-1] {
		t.Errorf("segments %v, the last %d, not %v", l, n, want)
	}
}

// turns tells how many turns a call makes, which must work: it is told on files made anew how few are enough.
func turns(t *testing.T, make func() *file.FS, call func(f *file.FS) api.Errno) int {
	t.Helper()
	for n := range 20 {
		f := make()
		f.Limit(n)
		if e := call(f); e == api.OK {
			return n
		} else if e != api.ErrDead {
			t.Fatalf("with %d turns: %v", n, e)
		}
	}
	t.Fatal("more than 20 turns")
	return 0
}

func TestJ2Example(t *testing.T) {
	f := room(t, 1000)
	j := opens(t, f, 100)
	done(t, j.Write([]string{"a", "b"}), j.Write(nil))
	opens(t, f, 100, []string{"a", "b"}, nil)
}

func TestJ2Names(t *testing.T) {
	for _, name := range []string{
		"", "A", "1", ".", "a1", "a.", ".a", "a.b", "a b", "aB", "Aa", "a\x00", "\xff", "é", "a-b", "`", "{", "@", "[",
		"abcdefghi", "abcdefghijklmnopqrstuvwxyz", x(9), x(25), x(100000),
	} {
		f := room(t, 100)
		fails(t, f, name, api.ErrName)
		f.Limit(0)
		f.Add("a", "")
		fails(t, f, name, api.ErrName)
		f.Crash(nil, nil)
		holds(t, f)
	}
	for b := range 256 {
		c := string([]byte{byte(b)})
		for _, name := range []string{c, "a" + c, c + "a", "abcdefg" + c} {
			want := api.ErrName
			if b >= 'a' && b <= 'z' {
				want = api.OK
			}
			_, _, e := Open(room(t, 100), name, 100)
			is(t, "Open of "+strconv.Quote(name), e, want)
		}
	}
	for _, name := range []string{"a", "z", "log", "man", "abcdefgh", "zzzzzzzz"} {
		f := room(t, 100)
		j, l, e := Open(f, name, 100)
		if e != api.OK || len(l) != 0 {
			t.Fatalf("%q: %q %v", name, l, e)
		}
		done(t, j.Write([]string{"x"}))
		holds(t, f, name+".1="+frame(t, "x"))
	}
}

func TestJ2Dead(t *testing.T) {
	for _, files := range [][]string{nil, {"log.1="}, {"log.1=" + frame(t, "a")}, {"log.1=\xff", "log.2="}} {
		f := with(t, files...)
		f.Limit(0)
		is(t, "Add", f.Add("x", ""), api.ErrDead)
		fails(t, f, "log", api.ErrDead)
		f.Crash(nil, nil)
		holds(t, f, files...)
	}
}

func TestJ2NoSegment(t *testing.T) {
	for _, files := range [][]string{nil, {"log=x"}, {"log.0=x", "log.01=y"}, {"loh.1="}} {
		f := with(t, files...)
		has(t, opens(t, f, 100), 1)
		holds(t, f, append(files, "log.1=")...)
		if n := turns(t, func() *file.FS { return with(t, files...) }, func(f *file.FS) api.Errno {
			_, _, e := Open(f, "log", 100)
			return e
		}); n != 1 {
			t.Errorf("%d turns", n)
		}
	}
	// Nothing needs no room, but a file.
	has(t, opens(t, room(t, 0), 100), 1)
	f := room(t, 100)
	for i := range 60 {
		done(t, f.Add("f"+strconv.Itoa(i), ""))
	}
	fails(t, f, "log", api.ErrMany)
	if l := f.Names(); len(l) != 60 {
		t.Errorf("%q", l)
	}
	done(t, f.Move("f7", "log.7"))
	has(t, opens(t, f, 100), 7)
}

// TestJ2WhichFiles lays files beside a journal that are not its segments: nobody reads them, or changes them.
func TestJ2WhichFiles(t *testing.T) {
	others := []string{
		"a=x", "lo.1=x", "log=x", "log.=x", "log..1=x", "log.0=x", "log.00=x", "log.01=x", "log.002=x", "log.1.=x", "log.1.2=x", "log.10000000=x",
		"log.18446744073709551617=x", "log.1a=x", "log.99999999=x", "log.a=x", "log1=x", "logs.1=x", "t1=x", "xlog.1=x",
	}
	f := with(t, others...)
	done(t, f.Add("log.2", frame(t, "a")), f.Add("log.9999999", frame(t, "b")))
	has(t, opens(t, f, 100, []string{"a"}, []string{"b"}), 2, 9999999)
	for _, x := range others {
		name, _, _ := strings.Cut(x, "=")
		if s, e := f.Get(name); s != "x" || e != api.OK {
			t.Errorf("%q: %q %v", name, s, e)
		}
	}
}

func TestJ2OrderOfNumbers(t *testing.T) {
	numbers := []int{1, 2, 3, 9, 10, 11, 19, 20, 99, 100, 101, 1000, 9999, 10000, 999999, 1000000, 9999998}
	f := with(t)
	var want [][]string
	for i := range numbers {
		n := strconv.Itoa(numbers[i*5%len(numbers)])
		done(t, f.Add("log."+n, frame(t, "first of "+n)+frame(t, "second of "+n, "")))
	}
	for _, n := range numbers {
		s := strconv.Itoa(n)
		want = append(want, []string{"first of " + s}, []string{"second of " + s, ""})
	}
	has(t, opens(t, f, 100, want...), numbers...)
}

// notFrames are what no frame of a batch begins with, and the errors of them.
func notFrames(t *testing.T) map[string]api.Errno {
	a := frame(t, "abc")
	return map[string]api.Errno{
		a[:1]: api.ErrForm, a[:3]: api.ErrForm, a[:len(a)-1]: api.ErrForm, "\xf1": api.ErrForm, "\xff": api.ErrForm, "\xf1\x00": api.ErrForm,
		"\x05abc": api.ErrForm, inverted(a): api.ErrSum, "\x00\x00\x00\x00\x01": api.ErrSum, "\x01b\xe8\xb7\xbe\x43": api.ErrSum,
		varint.Put(40001): api.ErrForm, varint.Put(40001) + x(40005): api.ErrForm, varint.Put(math.MaxUint64): api.ErrForm,
		framed(t, ""): api.ErrForm, framed(t, "\x01"): api.ErrForm, framed(t, "\x00x"): api.ErrForm, framed(t, "\x01\x02a"): api.ErrForm,
		framed(t, "\x33"+strings.Repeat("\x00", 51)): api.ErrForm, framed(t, "\xff"): api.ErrForm, framed(t, x(40000)): api.ErrForm,
	}
}

// TestJ2Last ends the last segment with what is no frame of a batch: it is removed, with all behind it, and that is flushed.
func TestJ2Last(t *testing.T) {
	a, b := frame(t, "a"), frame(t, "b", "c")
	for bad, why := range notFrames(t) {
		behind := []string{"", b, "\xff"}
		if why == api.ErrForm && !strings.HasPrefix(bad, "\xf9") && len(bad) < 5 {
			// What follows would be taken for the rest of what is cut short.
			behind = []string{""}
		}
		for _, rest := range behind {
			for _, ahead := range []string{"", a, a + b, b + a + a} {
				f := with(t, "log.1="+b, "log.2="+ahead+bad+rest)
				want := [][]string{{"b", "c"}}
				for s := ahead; s != ""; {
					if tail, ok := strings.CutPrefix(s, a); ok {
						want, s = append(want, []string{"a"}), tail
					} else {
						want, s = append(want, []string{"b", "c"}), strings.TrimPrefix(s, b)
					}
				}
				has(t, opens(t, f, 100, want...), 1, 2)
				holds(t, f, "log.1="+b, "log.2="+ahead)
				opens(t, f, 100, want...)
			}
		}
	}
}

// TestJ2LastAndFlushed: a tail that was not flushed is cut off, and what is left is flushed then; without a tail nothing is.
func TestJ2LastAndFlushed(t *testing.T) {
	a := frame(t, "a")
	for tail, want := range map[string]string{"": "", "\x01": a, inverted(a): a, framed(t, "") + a: a} {
		f := room(t, 1000)
		done(t, f.Add("log.1", a+tail))
		opens(t, f, 100, []string{"a"})
		f.Crash(nil, nil)
		holds(t, f, "log.1="+want)
	}
}

func TestJ2Turns(t *testing.T) {
	a := frame(t, "a")
	open := func(f *file.FS) api.Errno {
		j, l, e := Open(f, "log", 100)
		if e != api.OK && (j != nil || len(l) > 0) {
			t.Errorf("%v %q beside %v", j, l, e)
		}
		return e
	}
	for _, c := range []struct {
		files []string
		want  int
	}{
		{[]string{"log.1="}, 0}, {[]string{"log.1=" + a}, 0}, {[]string{"log.1=" + a, "log.2="}, 0},
		{[]string{"log.1=" + a + "\x01"}, 2}, {[]string{"log.1=\x01"}, 2}, {[]string{"log.1=" + a, "log.2=" + inverted(a) + a}, 2},
	} {
		if n := turns(t, func() *file.FS { return with(t, c.files...) }, open); n != c.want {
			t.Errorf("%d turns, not %d, of %q", n, c.want, c.files)
		}
	}
	// The first turn is the Cut, which is there after a crash even if the second one was not made.
	f := with(t, "log.1="+a+"\x01")
	f.Limit(1)
	fails(t, f, "log", api.ErrDead)
	f.Crash(nil, nil)
	holds(t, f, "log.1="+a)
}

// TestJ2NotLast: what is no frame of a batch is an error in any segment but the last one, whatever stands ahead of it and behind it.
func TestJ2NotLast(t *testing.T) {
	a := frame(t, "a")
	for bad, want := range notFrames(t) {
		for _, ahead := range []string{"", a, a + a} {
			files := []string{"log.1=" + a, "log.2=" + ahead + bad, "log.3=" + a + "\x01"}
			f := with(t, files...)
			fails(t, f, "log", want)
			holds(t, f, files...)
			fails(t, with(t, "log.2="+ahead+bad, "log.3="), "log", want)
			fails(t, with(t, "log.9="+ahead+bad, "log.10="+bad), "log", want)
		}
	}
}

func TestJ2NotLastTheFirstThing(t *testing.T) {
	a := frame(t, "a")
	sum, form := inverted(a), framed(t, "\x01")
	for _, c := range []struct {
		first, second string
		want          api.Errno
	}{
		{a + sum + form, "", api.ErrSum}, {a + form + sum, "", api.ErrForm}, {sum + "\xff", "", api.ErrSum}, {form + "\xff", sum, api.ErrForm},
		{form + inverted(frame(t, "b")), sum, api.ErrForm}, {sum, "\xff", api.ErrSum}, {"\xff", sum, api.ErrForm}, {a, sum, api.ErrSum}, {a, form, api.ErrForm},
		{sum + varint.Put(40001), form, api.ErrSum}, {varint.Put(40001) + sum, sum, api.ErrForm},
	} {
		f := with(t, "log.1="+c.first, "log.2="+c.second, "log.3=\x01")
		fails(t, f, "log", c.want)
		holds(t, f, "log.1="+c.first, "log.2="+c.second, "log.3=\x01")
	}
}

func TestJ2EmptySegments(t *testing.T) {
	f := with(t, "log.1=", "log.2="+frame(t, "a"), "log.3=", "log.4=", "log.7=")
	has(t, opens(t, f, 100, []string{"a"}), 1, 2, 3, 4, 7)
}

func TestJ2BatchesOfAllSizes(t *testing.T) {
	f, s := room(t, 1000000), ""
	for _, l := range someBatches() {
		s += frame(t, l...)
	}
	done(t, f.Add("log.1", s), f.Add("log.2", s))
	opens(t, f, 100, append(someBatches(), someBatches()...)...)
}

func TestJ3Write(t *testing.T) {
	f := room(t, 1000000)
	j := opens(t, f, 1000000)
	s := ""
	for i, l := range someBatches() {
		is(t, "Write", j.Write(l), api.OK)
		s += frame(t, l...)
		holds(t, f, "log.1="+s)
		opens(t, f, 100, someBatches()[:i+1]...)
	}
	has(t, j, 1)
}

func TestJ3WriteOfNoBatch(t *testing.T) {
	for _, c := range []struct {
		l    []string
		want api.Errno
	}{
		{of(51, ""), api.ErrMany}, {of(51, x(40000)), api.ErrMany}, {[]string{x(39997)}, api.ErrLong}, {of(50, x(798)), api.ErrLong},
	} {
		// Most is so small that a batch would begin the next segment.
		f := with(t, "log.1="+frame(t, "a"))
		j := opens(t, f, 1, []string{"a"})
		f.Limit(0)
		is(t, "Write", j.Write(c.l), c.want)
		if f.Dead() {
			t.Error("a turn was made")
		}
		holds(t, f, "log.1="+frame(t, "a"))
		is(t, "Write of a batch", j.Write(nil), api.ErrDead)
		is(t, "Write without power", j.Write(c.l), c.want)
	}
}

// TestJ3WhenItTurns writes frames of 7 and 8 bytes to segments that are full from so many bytes on.
func TestJ3WhenItTurns(t *testing.T) {
	a, b := frame(t, ""), frame(t, "b")
	if len(a) != 7 || len(b) != 8 {
		t.Fatal(len(a), len(b))
	}
	for _, c := range []struct {
		most int
		want []string
	}{
		{math.MinInt, []string{a, b, a, b}}, {-1, []string{a, b, a, b}}, {0, []string{a, b, a, b}}, {1, []string{a, b, a, b}}, {7, []string{a, b, a, b}},
		{8, []string{a + b, a + b}}, {9, []string{a + b, a + b}}, {15, []string{a + b, a + b}}, {16, []string{a + b + a, b}}, {22, []string{a + b + a, b}},
		{23, []string{a + b + a + b}}, {30, []string{a + b + a + b}}, {math.MaxInt, []string{a + b + a + b}},
	} {
		f := room(t, 1000)
		j := opens(t, f, c.most)
		done(t, j.Write([]string{""}), j.Write([]string{"b"}), j.Write([]string{""}), j.Write([]string{"b"}))
		var files []string
		var numbers []int
		for i, s := range c.want {
			files, numbers = append(files, "log."+strconv.Itoa(i+1)+"="+s), append(numbers, i+1)
		}
		holds(t, f, files...)
		has(t, j, numbers...)
		has(t, opens(t, f, c.most, []string{""}, []string{"b"}, []string{""}, []string{"b"}), numbers...)
	}
}

// TestJ3FullAtOpen: how full a segment is hangs on its bytes, whoever wrote them.
func TestJ3FullAtOpen(t *testing.T) {
	a := frame(t, "a")
	for _, c := range []struct {
		most int
		want []string
	}{
		{len(a), []string{"log.4=" + a, "log.5=" + a}}, {len(a) + 1, []string{"log.4=" + a + a}},
	} {
		for _, tail := range []string{"", "\x01", inverted(a)} {
			f := with(t, "log.4="+a+tail)
			done(t, opens(t, f, c.most, []string{"a"}).Write([]string{"a"}))
			holds(t, f, c.want...)
		}
	}
}

func TestJ3WriteTurns(t *testing.T) {
	a := frame(t, "a")
	for most, want := range map[int]int{1: 3, len(a): 3, len(a) + 1: 2} {
		if n := turns(t, func() *file.FS { return with(t, "log.1="+a) }, func(f *file.FS) api.Errno { return opens(t, f, most, []string{"a"}).Write(nil) }); n != want {
			t.Errorf("%d turns, not %d, with most %d", n, want, most)
		}
	}
}

// TestJ3WriteInPieces stops Write behind each of its turns: Add of nothing to the next segment, Add of all of the frame, Flush.
func TestJ3WriteInPieces(t *testing.T) {
	a, b := frame(t, "a"), frame(t, "b")
	for n, want := range [][]string{{"log.1=" + a}, {"log.1=" + a, "log.2="}, {"log.1=" + a, "log.2=" + b}, {"log.1=" + a, "log.2=" + b}} {
		for _, left := range []int{0, 100} {
			f := with(t, "log.1="+a)
			j := opens(t, f, 1, []string{"a"})
			f.Limit(n)
			wantE := api.ErrDead
			if n == 3 {
				wantE = api.OK
			}
			is(t, "Write with "+strconv.Itoa(n)+" turns", j.Write([]string{"b"}), wantE)
			has(t, j, []int{1, 2}[:min(len(want), 2)]...)
			f.Crash([]int{left}, nil)
			if n == 2 && left == 0 {
				want = []string{"log.1=" + a, "log.2="}
			} else if n == 2 {
				want = []string{"log.1=" + a, "log.2=" + b}
			}
			holds(t, f, want...)
		}
	}
}

func TestJ3WriteWithoutRoom(t *testing.T) {
	a := frame(t, "a")
	f := room(t, 2*len(a)-1)
	j := opens(t, f, 100)
	done(t, j.Write([]string{"a"}))
	for range 2 {
		is(t, "Write", j.Write([]string{"a"}), api.ErrFull)
		holds(t, f, "log.1="+a)
	}
	done(t, j.Write(nil))
	// The next segment, which there is room for, is begun ahead of what there is none for, once.
	f = room(t, 2*len(a)-1)
	j = opens(t, f, 1)
	done(t, j.Write([]string{"a"}))
	for range 3 {
		is(t, "Write", j.Write([]string{"a"}), api.ErrFull)
		holds(t, f, "log.1="+a, "log.2=")
	}
	done(t, j.Write(nil))
	opens(t, f, 1, []string{"a"}, nil)
}

func TestJ3TooManyFiles(t *testing.T) {
	f := room(t, 10000)
	j := opens(t, f, 1)
	for i := range 60 {
		is(t, "Write", j.Write([]string{strconv.Itoa(i)}), api.OK)
	}
	is(t, "Write of the 61st", j.Write(nil), api.ErrMany)
	is(t, "Turn to the 61st", j.Turn(), api.ErrMany)
	if l := j.Segments(); len(l) != 60 || l[0] != 1 || l[59] != 60 || j.Number() != 60 {
		t.Errorf("%v %d", l, j.Number())
	}
	done(t, j.Trim(11), j.Write([]string{"60"}), j.Turn())
	if l := j.Segments(); len(l) != 52 || l[0] != 11 || l[51] != 62 {
		t.Errorf("%v", l)
	}
}

func TestJ3Turn(t *testing.T) {
	f := room(t, 1000)
	j := opens(t, f, 100)
	has(t, j, 1)
	is(t, "Turn", j.Turn(), api.OK)
	has(t, j, 1, 2)
	holds(t, f, "log.1=", "log.2=")
	done(t, j.Write([]string{"a"}), j.Turn(), j.Turn(), j.Write([]string{"b"}))
	has(t, j, 1, 2, 3, 4)
	holds(t, f, "log.1=", "log.2="+frame(t, "a"), "log.3=", "log.4="+frame(t, "b"))
	f.Limit(0)
	is(t, "Turn beyond the limit", j.Turn(), api.ErrDead)
	is(t, "Turn without power", j.Turn(), api.ErrDead)
	has(t, j, 1, 2, 3, 4)
	f.Crash(nil, nil)
	f.Limit(1)
	is(t, "Turn as one turn", j.Turn(), api.OK)
	has(t, j, 1, 2, 3, 4, 5)
	j = opens(t, with(t, "log.7="), 100)
	done(t, j.Turn())
	has(t, j, 7, 8)
	// The next number is that of the last segment and one, whichever are ahead of it.
	j = opens(t, with(t, "log.7=", "log.99=", "log.100="), 100)
	done(t, j.Turn())
	has(t, j, 7, 99, 100, 101)
}

func TestJ3SegmentsWithoutPower(t *testing.T) {
	f := with(t, "log.2=", "log.10=")
	j := opens(t, f, 100)
	f.Limit(0)
	is(t, "Turn", j.Turn(), api.ErrDead)
	has(t, j, 2, 10)
}

// TestJ3TheLastNumber: behind 9999999 there is no name for a segment, so nothing is written where Open would not find it.
func TestJ3TheLastNumber(t *testing.T) {
	f := with(t, "log.9999998=")
	j := opens(t, f, 10)
	done(t, j.Turn(), j.Write([]string{"abcdef"}))
	for range 2 {
		is(t, "Turn", j.Turn(), api.ErrMany)
		is(t, "Write", j.Write(nil), api.ErrMany)
	}
	has(t, j, 9999998, 9999999)
	holds(t, f, "log.9999998=", "log.9999999="+frame(t, "abcdef"))
	opens(t, f, 10, []string{"abcdef"})
}

func TestJ4Trim(t *testing.T) {
	for _, c := range []struct {
		before int
		want   []int
	}{
		{math.MinInt, []int{2, 3, 9, 10}}, {-1, []int{2, 3, 9, 10}}, {0, []int{2, 3, 9, 10}}, {2, []int{2, 3, 9, 10}}, {3, []int{3, 9, 10}}, {4, []int{9, 10}},
		{9, []int{9, 10}}, {10, []int{10}}, {11, []int{10}}, {math.MaxInt, []int{10}},
	} {
		files := []string{"log.10=", "log.2=" + frame(t, "2"), "log.3=" + frame(t, "3"), "log.9=" + frame(t, "9")}
		others := []string{"log.01=x", "log=x", "logs.1=x", "m.1=x"}
		f := with(t, append(files, others...)...)
		j := opens(t, f, 100, []string{"2"}, []string{"3"}, []string{"9"})
		for range 2 {
			is(t, "Trim", j.Trim(c.before), api.OK)
			has(t, j, c.want...)
		}
		if n := len(f.Names()); n != len(c.want)+len(others) {
			t.Errorf("%q", f.Names())
		}
		var want [][]string
		for _, n := range c.want[:len(c.want)-1] {
			want = append(want, []string{strconv.Itoa(n)})
		}
		has(t, opens(t, f, 100, want...), c.want...)
		made := turns(t, func() *file.FS { return with(t, files...) }, func(f *file.FS) api.Errno {
			return opens(t, f, 100, []string{"2"}, []string{"3"}, []string{"9"}).Trim(c.before)
		})
		if made != 4-len(c.want) {
			t.Errorf("Trim(%d): %d turns", c.before, made)
		}
	}
}

func TestJ4TheLastOneStays(t *testing.T) {
	f := room(t, 1000)
	j := opens(t, f, 100)
	done(t, j.Write([]string{"a"}), j.Trim(1), j.Trim(2), j.Trim(1000))
	holds(t, f, "log.1="+frame(t, "a"))
	done(t, j.Turn(), j.Trim(j.Number()))
	holds(t, f, "log.2=")
	done(t, j.Write([]string{"b"}), j.Turn(), j.Turn(), j.Trim(4))
	has(t, j, 4)
	done(t, j.Turn())
	has(t, j, 4, 5)
}

// TestJ4TrimInPieces stops Trim behind each of its turns: the segments go one by one, the least number first.
func TestJ4TrimInPieces(t *testing.T) {
	all := []int{2, 3, 9, 10}
	for n := range 3 {
		f := with(t, "log.10=", "log.2=", "log.3=", "log.9=")
		j := opens(t, f, 100)
		f.Limit(n)
		is(t, "Trim", j.Trim(10), api.ErrDead)
		has(t, j, all[n:]...)
		is(t, "Trim without power", j.Trim(10), api.ErrDead)
		is(t, "Trim of nothing without power", j.Trim(2), api.OK)
		f.Crash(nil, nil)
		has(t, opens(t, f, 100), all[n:]...)
	}
}

// TestP1NotMadeByOpen uses a Journal that Open did not make: it ends, and writes nothing that could be lost.
func TestP1NotMadeByOpen(t *testing.T) {
	j := &Journal{}
	if e := j.Write([]string{"a"}); e == api.OK {
		t.Error("Write: OK")
	}
	if e := j.Turn(); e == api.OK {
		t.Error("Turn: OK")
	}
	is(t, "Write of too many", j.Write(of(51, "")), api.ErrMany)
	is(t, "Trim", j.Trim(9), api.OK)
	if j.Number() != 0 || len(j.Segments()) != 0 {
		t.Errorf("%d %v", j.Number(), j.Segments())
	}
	opens(t, &file.FS{}, 100)
}

// TestP1SegmentsTakenAway drops and renames segments beside a journal that is open: its calls tell of the files that there are.
func TestP1SegmentsTakenAway(t *testing.T) {
	f := with(t, "log.1=", "log.2=", "log.3=")
	j := opens(t, f, 100)
	done(t, f.Drop("log.3"), f.Move("log.1", "x"))
	has(t, j, 2)
	done(t, j.Write([]string{"a"}), j.Trim(9), f.Drop("log.2"))
	has(t, j)
	is(t, "Trim", j.Trim(9), api.OK)
	done(t, j.Write([]string{"b"}))
	opens(t, f, 100, []string{"b"})
}

func TestP3ListsAreNew(t *testing.T) {
	f := with(t, "log.1="+frame(t, "a", "b")+frame(t, "c", "d"), "log.2="+frame(t, "e"))
	want := [][]string{{"a", "b"}, {"c", "d"}, {"e"}}
	j, l, _ := Open(f, "log", 100)
	_ = append(l[0], "z", "z")
	clear(l[0])
	if !same(l[1:], want[1:]) {
		t.Errorf("%q", l)
	}
	clear(l[:cap(l)])
	n := j.Segments()
	clear(n[:cap(n)])
	has(t, j, 1, 2)
	opens(t, f, 100, want...)
	batch := []string{"f", "g", "beyond"}
	done(t, j.Write(batch[:2]))
	if !slices.Equal(batch, []string{"f", "g", "beyond"}) {
		t.Errorf("%q", batch)
	}
	clear(batch)
	opens(t, f, 100, append(want, []string{"f", "g"})...)
}

// TestP4SideBySide keeps journals whose names begin alike in the same files.
func TestP4SideBySide(t *testing.T) {
	f := room(t, 10000)
	names := []string{"a", "ab", "b", "aaaaaaaa"}
	var l []*Journal
	for i, name := range names {
		j, _, e := Open(f, name, 8*i)
		done(t, e)
		l = append(l, j)
	}
	for n := range 6 {
		for i, j := range l {
			done(t, j.Write([]string{names[i], strconv.Itoa(n)}))
		}
	}
	done(t, l[0].Trim(4))
	for i, name := range names {
		_, batches, e := Open(f, name, 100)
		done(t, e)
		var want [][]string
		for n := range 6 {
			if i > 0 || n >= 3 {
				want = append(want, []string{name, strconv.Itoa(n)})
			}
		}
		if !same(batches, want) {
			t.Errorf("%q: %q", name, batches)
		}
	}
}
