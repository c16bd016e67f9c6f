package file

import (
	"math"
	"slices"
	"strconv"
	"strings"
	"testing"

	"moult/api"
)

func made(t *testing.T, room int) *FS {
	t.Helper()
	f, e := New(room)
	if f == nil || e != api.OK {
		t.Fatalf("New(%d): %v %v", room, f, e)
	}
	return f
}

// is holds what a call answered against what it must answer.
func is(t *testing.T, what string, e, want api.Errno) {
	t.Helper()
	if e != want {
		t.Errorf("%s: %v, not %v", what, e, want)
	}
}

func done(t *testing.T, l ...api.Errno) {
	t.Helper()
	for i, e := range l {
		if e != api.OK {
			t.Fatalf("call %d: %v", i, e)
		}
	}
}

// holds tells whether f has these files, each written as name=bytes, and no others.
func holds(t *testing.T, f *FS, files ...string) {
	t.Helper()
	var names []string
	total := 0
	for _, x := range files {
		name, s, _ := strings.Cut(x, "=")
		names, total = append(names, name), total+len(s)
		if got, e := f.Get(name); got != s || e != api.OK {
			t.Errorf("Get(%q): %.40q %v, not %.40q", name, got, e, s)
		}
	}
	if l := f.Names(); !slices.Equal(l, names) {
		t.Errorf("names: %q, not %q", l, names)
	}
	if n := f.Used(); n != total {
		t.Errorf("used: %d, not %d", n, total)
	}
}

// calls are all that need the power, each with arguments at which it would make a turn if there were a file a.
func calls(f *FS) map[string]func() api.Errno {
	return map[string]func() api.Errno{
		"Add":     func() api.Errno { return f.Add("a", "z") },
		"Add new": func() api.Errno { return f.Add("n", "") },
		"Flush":   func() api.Errno { return f.Flush("a") },
		"Cut":     func() api.Errno { return f.Cut("a", 1) },
		"Move":    func() api.Errno { return f.Move("a", "m") },
		"Move to": func() api.Errno { return f.Move("a", "a") },
		"Drop":    func() api.Errno { return f.Drop("a") },
	}
}

type mistake struct {
	do   func() api.Errno
	want api.Errno
}

// wrong are calls that return an error other than ErrDead, if there are a file a of three bytes, 59 others and no room.
func wrong(f *FS) map[string]mistake {
	return map[string]mistake{
		"Add to no name":      {func() api.Errno { return f.Add("A", "") }, api.ErrName},
		"Add to too many":     {func() api.Errno { return f.Add("zz", "") }, api.ErrMany},
		"Add of too much":     {func() api.Errno { return f.Add("a", "x") }, api.ErrFull},
		"Flush of none":       {func() api.Errno { return f.Flush("zz") }, api.ErrNone},
		"Cut of none":         {func() api.Errno { return f.Cut("zz", 0) }, api.ErrNone},
		"Cut below":           {func() api.Errno { return f.Cut("a", -1) }, api.ErrRange},
		"Cut beyond":          {func() api.Errno { return f.Cut("a", 4) }, api.ErrRange},
		"Move of none":        {func() api.Errno { return f.Move("zz", "a") }, api.ErrNone},
		"Move to no name":     {func() api.Errno { return f.Move("a", "") }, api.ErrName},
		"Drop of none":        {func() api.Errno { return f.Drop("zz") }, api.ErrNone},
		"Get of none":         {func() api.Errno { _, e := f.Get("zz"); return e }, api.ErrNone},
		"Get of what is none": {func() api.Errno { _, e := f.Get(""); return e }, api.ErrNone},
	}
}

// full has a file a of three bytes, 59 others, and no room.
func full(t *testing.T) *FS {
	f := made(t, 3)
	done(t, f.Add("a", "abc"))
	for i := range 59 {
		done(t, f.Add("f"+strconv.Itoa(i), ""))
	}
	return f
}

func TestF1New(t *testing.T) {
	for _, room := range []int{0, 1, 9999999, 10000000} {
		f := made(t, room)
		holds(t, f)
		if f.Dead() {
			t.Error("dead from the start")
		}
	}
	for _, room := range []int{-1, -10000000, math.MinInt, 10000001, 1 << 32, math.MaxInt} {
		if f, e := New(room); f != nil || e != api.ErrRange {
			t.Errorf("New(%d): %v %v", room, f, e)
		}
	}
}

func TestF1NoLimit(t *testing.T) {
	f := made(t, 10)
	for range 100000 {
		done(t, f.Add("a", ""))
	}
	holds(t, f, "a=")
}

func TestF1Names(t *testing.T) {
	f := made(t, 100)
	want := []string{".", "..", ".0", ".a", "0", "0.", "00", "1", "10", "2", "9", "a", "a.", "a.1", "a.10", "a.2", "a0", "aa", "ab", "b", "z", "zz"}
	for i := range want {
		done(t, f.Add(want[(i*13+5)%len(want)], "x"))
	}
	if l := f.Names(); !slices.Equal(l, want) {
		t.Errorf("%q, not %q", l, want)
	}
}

func TestF1Used(t *testing.T) {
	f := made(t, 100)
	for _, c := range []struct {
		e    api.Errno
		want int
	}{
		{f.Add("a", "12345"), 5}, {f.Add("b", "123"), 8}, {f.Add("a", "12"), 10}, {f.Add("c", ""), 10}, {f.Flush("a"), 10},
	} {
		done(t, c.e)
	}
	for _, c := range []struct {
		do   func() api.Errno
		want int
	}{
		{func() api.Errno { return f.Add("c", "12") }, 12},
		{func() api.Errno { return f.Flush("b") }, 12},
		{func() api.Errno { return f.Cut("a", 6) }, 11},
		{func() api.Errno { return f.Move("a", "b") }, 8},
		{func() api.Errno { return f.Move("b", "d") }, 8},
		{func() api.Errno { return f.Drop("c") }, 6},
		{func() api.Errno { return f.Cut("d", 0) }, 0},
	} {
		if e := c.do(); e != api.OK || f.Used() != c.want {
			t.Errorf("%d %v, not %d", f.Used(), e, c.want)
		}
	}
}

func TestF1WithoutPower(t *testing.T) {
	f := made(t, 100)
	done(t, f.Add("b", "xy"), f.Add("a", "z"), f.Flush("b"))
	f.Limit(0)
	is(t, "Drop", f.Drop("a"), api.ErrDead)
	if l, n := f.Names(), f.Used(); !f.Dead() || !slices.Equal(l, []string{"a", "b"}) || n != 3 {
		t.Errorf("%v %q %d", f.Dead(), l, n)
	}
}

func TestF2Example(t *testing.T) {
	f := made(t, 100)
	done(t, f.Add("a", "xy"), f.Flush("a"), f.Add("a", "z"))
	f.Crash([]int{0}, nil)
	holds(t, f, "a=xy")
}

func TestF2AddNames(t *testing.T) {
	for b := range 256 {
		c := string([]byte{byte(b)})
		want := api.ErrName
		if strings.Contains("abcdefghijklmnopqrstuvwxyz0123456789.", c) {
			want = api.OK
		}
		for _, name := range []string{c, c + "a", "a" + c, "a" + c + "0", strings.Repeat("a", 23) + c, strings.Repeat(c, 24)} {
			f := made(t, 100)
			is(t, "Add to "+strconv.Quote(name), f.Add(name, "x"), want)
			if l := f.Names(); len(l) == 1 != (want == api.OK) {
				t.Errorf("%q after Add to %q", l, name)
			}
			f = made(t, 100)
			done(t, f.Add("from", "x"))
			is(t, "Move to "+strconv.Quote(name), f.Move("from", name), want)
			if _, e := f.Get("from"); e == api.OK != (want != api.OK) {
				t.Errorf("%v after Move to %q", e, name)
			}
		}
	}
	f := made(t, 100)
	for _, name := range []string{"", strings.Repeat("a", 25), strings.Repeat("a", 1000), "log.1\x00", "é", "a b", "a/b", "T1", "a-b", "a_b", "`", "{", "/", ":", "-"} {
		is(t, "Add to "+strconv.Quote(name), f.Add(name, ""), api.ErrName)
	}
	holds(t, f)
}

func TestF2Add(t *testing.T) {
	f := made(t, 1000)
	done(t, f.Add("a", "12"), f.Add("b", ""), f.Add("a", ""), f.Add("a", "3"), f.Add("b", "\x00\xff"), f.Add("a", "é"))
	holds(t, f, "a=123é", "b=\x00\xff")
	want := ""
	for i := range 200 {
		s := strings.Repeat(string(rune('a'+i%26)), i%4)
		want += s
		done(t, f.Add("c", s))
		holds(t, f, "a=123é", "b=\x00\xff", "c="+want)
	}
}

func TestF2AddMany(t *testing.T) {
	f := full(t)
	for range 2 {
		is(t, "the 61st", f.Add("x", ""), api.ErrMany)
		is(t, "a 60th again", f.Add("f58", ""), api.OK)
		if n := len(f.Names()); n != 60 {
			t.Errorf("%d files", n)
		}
	}
	done(t, f.Drop("f7"), f.Add("x", ""))
	is(t, "a dropped one", f.Add("f7", ""), api.ErrMany)
	done(t, f.Move("x", "f8"), f.Add("f7", ""))
	is(t, "one more", f.Add("x", ""), api.ErrMany)
	done(t, f.Move("f7", "y"))
	is(t, "the name that was left", f.Add("f7", ""), api.ErrMany)
}

func TestF2AddFull(t *testing.T) {
	f := made(t, 10)
	is(t, "all and one", f.Add("a", "12345678901"), api.ErrFull)
	holds(t, f)
	is(t, "all", f.Add("a", "1234567890"), api.OK)
	is(t, "one more", f.Add("a", "1"), api.ErrFull)
	is(t, "one more elsewhere", f.Add("b", "1"), api.ErrFull)
	is(t, "nothing", f.Add("b", ""), api.OK)
	holds(t, f, "a=1234567890", "b=")
	done(t, f.Cut("a", 7), f.Add("b", "abc"))
	is(t, "one more after Cut", f.Add("b", "1"), api.ErrFull)
	done(t, f.Move("b", "a"), f.Add("c", "1234567"))
	is(t, "one more after Move", f.Add("b", "1"), api.ErrFull)
	done(t, f.Drop("a"), f.Add("c", "123"))
	is(t, "one more after Drop", f.Add("c", "1"), api.ErrFull)
	f.Crash([]int{4}, nil)
	is(t, "too much after Crash", f.Add("c", "1234567"), api.ErrFull)
	is(t, "enough after Crash", f.Add("c", "123456"), api.OK)
	none := made(t, 0)
	is(t, "no room", none.Add("a", "x"), api.ErrFull)
	is(t, "no room needed", none.Add("a", ""), api.OK)
	holds(t, none, "a=")
	great := made(t, 10000000)
	x := strings.Repeat("x", 5000000)
	done(t, great.Add("a", x), great.Add("b", x))
	is(t, "beyond the greatest room", great.Add("c", "x"), api.ErrFull)
	holds(t, great, "a="+x, "b="+x)
}

func TestF2AddErrorsInOrder(t *testing.T) {
	f := full(t)
	is(t, "no name, too many, too much", f.Add("A", "x"), api.ErrName)
	is(t, "too many, too much", f.Add("x", "x"), api.ErrMany)
	is(t, "too much", f.Add("f0", "x"), api.ErrFull)
	f.Limit(0)
	is(t, "too much, beyond the limit", f.Add("f0", "x"), api.ErrFull)
	is(t, "beyond the limit", f.Add("f0", ""), api.ErrDead)
	for _, name := range []string{"A", "x", "f0"} {
		is(t, "without power, "+name, f.Add(name, "x"), api.ErrDead)
	}
}

func TestF2Flush(t *testing.T) {
	f := made(t, 100)
	done(t, f.Add("a", "one"), f.Add("a", "two"), f.Add("b", "xyz"))
	is(t, "none", f.Flush("c"), api.ErrNone)
	is(t, "no name", f.Flush("A"), api.ErrNone)
	is(t, "the first time", f.Flush("a"), api.OK)
	is(t, "again", f.Flush("a"), api.OK)
	done(t, f.Add("a", "three"))
	holds(t, f, "a=onetwothree", "b=xyz")
	f.Crash(nil, nil)
	holds(t, f, "a=onetwo", "b=")
}

func TestF2Cut(t *testing.T) {
	f := made(t, 100)
	is(t, "none", f.Cut("a", 0), api.ErrNone)
	is(t, "none, beyond", f.Cut("a", -1), api.ErrNone)
	done(t, f.Add("a", "12345"))
	for _, n := range []int{-1, 6, 7, math.MinInt, math.MaxInt, 1<<32 + 3} {
		is(t, "Cut to "+strconv.Itoa(n), f.Cut("a", n), api.ErrRange)
	}
	holds(t, f, "a=12345")
	is(t, "all", f.Cut("a", 5), api.OK)
	holds(t, f, "a=12345")
	is(t, "some", f.Cut("a", 3), api.OK)
	holds(t, f, "a=123")
	is(t, "what was cut off", f.Cut("a", 4), api.ErrRange)
	done(t, f.Add("a", "xy"))
	holds(t, f, "a=123xy")
	is(t, "to nothing", f.Cut("a", 0), api.OK)
	is(t, "nothing to nothing", f.Cut("a", 0), api.OK)
	is(t, "nothing to more", f.Cut("a", 1), api.ErrRange)
	holds(t, f, "a=")
}

// TestF2CutAndFlushed cuts three flushed bytes and two others to each length, with two more behind it: the crash shows which are flushed.
func TestF2CutAndFlushed(t *testing.T) {
	for n, want := range []string{"", "1", "12", "123", "123", "123"} {
		f := made(t, 100)
		done(t, f.Add("a", "12"), f.Add("a", "3"), f.Flush("a"), f.Add("a", "45"), f.Cut("a", n), f.Add("a", "xy"))
		holds(t, f, "a="+"12345"[:n]+"xy")
		f.Crash(nil, nil)
		holds(t, f, "a="+want)
	}
}

func TestF2Move(t *testing.T) {
	f := made(t, 100)
	done(t, f.Add("a", "12"), f.Add("b", "345"), f.Add("c", "6"))
	is(t, "none", f.Move("d", "a"), api.ErrNone)
	is(t, "none to itself", f.Move("d", "d"), api.ErrNone)
	is(t, "none to no name", f.Move("d", "D"), api.ErrNone)
	is(t, "no name", f.Move("", "a"), api.ErrNone)
	is(t, "to no name", f.Move("a", "A"), api.ErrName)
	is(t, "to too long a name", f.Move("a", strings.Repeat("a", 25)), api.ErrName)
	holds(t, f, "a=12", "b=345", "c=6")
	is(t, "to itself", f.Move("a", "a"), api.OK)
	holds(t, f, "a=12", "b=345", "c=6")
	is(t, "to another", f.Move("a", "b"), api.OK)
	holds(t, f, "b=12", "c=6")
	is(t, "what is gone", f.Move("a", "x"), api.ErrNone)
	is(t, "to a new one", f.Move("c", "a"), api.OK)
	done(t, f.Add("a", "7"), f.Add("b", "8"), f.Add("c", "9"))
	holds(t, f, "a=67", "b=128", "c=9")
	is(t, "among 60", full(t).Move("a", "x"), api.OK)
}

// TestF2MoveAndFlushed shows by a crash that what is flushed of a file goes with it, and nothing of the one that it replaces.
func TestF2MoveAndFlushed(t *testing.T) {
	f := made(t, 100)
	done(t, f.Add("a", "12"), f.Flush("a"), f.Add("a", "3"), f.Add("b", "456"), f.Flush("b"), f.Add("c", "7"))
	done(t, f.Move("a", "b"), f.Move("c", "d"), f.Move("b", "b"), f.Add("a", "8"))
	f.Crash(nil, nil)
	holds(t, f, "a=", "b=12", "d=")
	done(t, f.Add("d", "9"), f.Move("d", "b"))
	f.Crash(nil, nil)
	holds(t, f, "a=", "b=")
}

func TestF2Drop(t *testing.T) {
	f := made(t, 100)
	done(t, f.Add("a", "12"), f.Flush("a"), f.Add("b", "3"))
	is(t, "none", f.Drop("c"), api.ErrNone)
	is(t, "no name", f.Drop("A"), api.ErrNone)
	is(t, "one", f.Drop("a"), api.OK)
	holds(t, f, "b=3")
	is(t, "again", f.Drop("a"), api.ErrNone)
	_, e := f.Get("a")
	is(t, "Get", e, api.ErrNone)
	done(t, f.Add("a", "xy"))
	holds(t, f, "a=xy", "b=3")
	// Of a file that was dropped nothing is flushed in the next one of its name.
	f.Crash(nil, nil)
	holds(t, f, "a=", "b=")
}

func TestF2Get(t *testing.T) {
	f := made(t, 100)
	for _, name := range []string{"", "a", "A", "\xff", strings.Repeat("a", 25)} {
		if s, e := f.Get(name); s != "" || e != api.ErrNone {
			t.Errorf("Get(%q): %q %v", name, s, e)
		}
	}
	done(t, f.Add("a", "12"))
	before, _ := f.Get("a")
	done(t, f.Cut("a", 0), f.Add("a", "xyz"))
	after, _ := f.Get("a")
	f.Crash([]int{3}, []int{255})
	if before != "12" || after != "xyz" {
		t.Errorf("%q %q: what was answered has changed", before, after)
	}
}

func TestF2ErrorsChangeNothing(t *testing.T) {
	f := full(t)
	names := f.Names()
	for what, c := range wrong(f) {
		is(t, what, c.do(), c.want)
		if s, e := f.Get("a"); s != "abc" || e != api.OK || f.Used() != 3 || f.Dead() || !slices.Equal(f.Names(), names) {
			t.Errorf("%s: %q %v %d %v", what, s, e, f.Used(), f.Names())
		}
	}
}

func TestF2WithoutPower(t *testing.T) {
	f := full(t)
	f.Limit(0)
	is(t, "Flush", f.Flush("a"), api.ErrDead)
	names := f.Names()
	for what, do := range calls(f) {
		is(t, what, do(), api.ErrDead)
	}
	for what, c := range wrong(f) {
		is(t, what, c.do(), api.ErrDead)
	}
	if s, e := f.Get("a"); s != "" || e != api.ErrDead {
		t.Errorf("Get: %q %v", s, e)
	}
	if !f.Dead() || f.Used() != 3 || !slices.Equal(f.Names(), names) {
		t.Errorf("%v %d %q", f.Dead(), f.Used(), f.Names())
	}
	f.Crash([]int{3}, nil)
	if s, e := f.Get("a"); s != "abc" || e != api.OK {
		t.Errorf("Get after it: %q %v", s, e)
	}
}

func TestF3Example(t *testing.T) {
	f := made(t, 100)
	f.Limit(1)
	is(t, "the first", f.Add("b", "q"), api.OK)
	is(t, "the second", f.Add("b", "r"), api.ErrDead)
	if !f.Dead() {
		t.Error("not dead")
	}
	f.Crash([]int{1}, []int{1})
	holds(t, f, "b=p")
}

func TestF3EachIsATurn(t *testing.T) {
	for what := range calls(nil) {
		f := made(t, 100)
		done(t, f.Add("a", "12"))
		f.Limit(1)
		is(t, what, calls(f)[what](), api.OK)
		is(t, "behind "+what, f.Add("b", ""), api.ErrDead)
	}
}

func TestF3SomeTurns(t *testing.T) {
	for limit := range 8 {
		f := made(t, 100)
		f.Limit(limit)
		for range limit {
			is(t, "a turn", f.Add("a", "x"), api.OK)
		}
		if f.Dead() {
			t.Errorf("dead after %d of %d", limit, limit)
		}
		is(t, "beyond", f.Add("a", "x"), api.ErrDead)
		if !f.Dead() || f.Used() != limit {
			t.Errorf("%v %d behind %d", f.Dead(), f.Used(), limit)
		}
	}
}

// TestF3NotPerformed asks at a crash whether the turn beyond the limit left anything.
func TestF3NotPerformed(t *testing.T) {
	for what := range calls(nil) {
		f := made(t, 100)
		done(t, f.Add("a", "12"), f.Flush("a"), f.Add("a", "34"), f.Add("b", "5"))
		f.Limit(0)
		is(t, what, calls(f)[what](), api.ErrDead)
		f.Crash([]int{1, 1}, nil)
		holds(t, f, "a=123", "b=5")
	}
}

func TestF3WhatIsNoTurn(t *testing.T) {
	f := full(t)
	f.Limit(1)
	for range 5 {
		for what, c := range wrong(f) {
			is(t, what, c.do(), c.want)
		}
		f.Get("a")
		f.Names()
		f.Used()
		f.Dead()
	}
	f.Limit(0)
	for what, c := range wrong(f) {
		is(t, what, c.do(), c.want)
	}
	if f.Dead() {
		t.Fatal("dead")
	}
	f.Limit(1)
	is(t, "the turn", f.Cut("a", 1), api.OK)
	is(t, "the next one", f.Cut("a", 1), api.ErrDead)
}

func TestF3LimitAnew(t *testing.T) {
	f := made(t, 1000)
	turns := func(n int) {
		t.Helper()
		for range n {
			is(t, "a turn", f.Add("a", "x"), api.OK)
		}
	}
	f.Limit(2)
	turns(1)
	f.Limit(3)
	turns(3)
	f.Limit(0)
	f.Limit(1)
	turns(1)
	for _, n := range []int{-1, -2, math.MinInt} {
		f.Limit(0)
		f.Limit(n)
		turns(20)
	}
	f.Limit(math.MaxInt)
	turns(20)
	f.Limit(5)
	turns(5)
	is(t, "the sixth", f.Add("a", "x"), api.ErrDead)
}

func TestF3LimitWithoutPower(t *testing.T) {
	for _, n := range []int{-1, 0, 5} {
		f := made(t, 100)
		f.Limit(0)
		is(t, "beyond", f.Add("a", "x"), api.ErrDead)
		f.Limit(n)
		if is(t, "without power", f.Add("a", "x"), api.ErrDead); !f.Dead() {
			t.Errorf("Limit(%d) puts the power on", n)
		}
		f.Crash(nil, nil)
		for range 10 {
			is(t, "after it", f.Add("a", "x"), api.OK)
		}
	}
}

func TestF4Power(t *testing.T) {
	f := made(t, 100)
	f.Limit(2)
	done(t, f.Add("a", "x"))
	// The power need not be off.
	f.Crash(nil, nil)
	for range 9 {
		is(t, "without a limit", f.Add("a", "x"), api.OK)
	}
	f.Limit(0)
	is(t, "beyond", f.Add("a", "x"), api.ErrDead)
	f.Crash(nil, nil)
	if f.Dead() {
		t.Error("dead")
	}
	is(t, "after it", f.Add("a", "x"), api.OK)
}

func TestF4HowMuchIsLeft(t *testing.T) {
	for _, c := range []struct {
		left []int
		want string
	}{
		{nil, "ab"}, {[]int{}, "ab"}, {[]int{0}, "ab"}, {[]int{1}, "abc"}, {[]int{2}, "abcd"}, {[]int{3}, "abcde"},
		{[]int{4}, "abcde"}, {[]int{5}, "abcde"}, {[]int{math.MaxInt}, "abcde"}, {[]int{1 << 32}, "abcde"},
		{[]int{-1}, "ab"}, {[]int{-3}, "ab"}, {[]int{math.MinInt}, "ab"}, {[]int{1, 9, 9}, "abc"},
	} {
		f := made(t, 100)
		done(t, f.Add("a", "ab"), f.Flush("a"), f.Add("a", "cd"), f.Add("a", "e"))
		f.Crash(c.left, nil)
		holds(t, f, "a="+c.want)
		// All that is left is flushed.
		f.Crash(nil, nil)
		holds(t, f, "a="+c.want)
	}
}

func TestF4Spoilt(t *testing.T) {
	for _, c := range []struct {
		spoil int
		want  string
	}{
		{0, "d"}, {1, "e"}, {0x20, "D"}, {255, "\x9b"}, {256, "d"}, {257, "e"}, {-1, "\x9b"}, {-256, "d"}, {-255, "e"},
		{math.MinInt, "d"}, {math.MaxInt, "\x9b"}, {1 << 32, "d"}, {0x7fffffffffffff01, "e"},
	} {
		f := made(t, 100)
		done(t, f.Add("a", "ab"), f.Flush("a"), f.Add("a", "cdef"))
		f.Crash([]int{2}, []int{c.spoil})
		holds(t, f, "a=abc"+c.want)
		f.Crash(nil, []int{c.spoil})
		holds(t, f, "a=abc"+c.want)
	}
	for _, left := range []int{0, -1} {
		f := made(t, 100)
		done(t, f.Add("a", "ab"), f.Flush("a"), f.Add("a", "cd"))
		f.Crash([]int{left}, []int{255})
		holds(t, f, "a=ab")
	}
}

// TestF4WhichFiles has files with flushed bytes alone, none at all, or pieces of no bytes: none of these takes a number of the lists.
func TestF4WhichFiles(t *testing.T) {
	build := func() *FS {
		f := made(t, 100)
		done(t, f.Add("z", "new"), f.Add("e", ""), f.Add("b", "old"), f.Flush("b"), f.Add("c", "old"), f.Flush("c"), f.Add("c", "new"))
		done(t, f.Add("d", "old"), f.Flush("d"), f.Add("d", ""), f.Add("a", "new"), f.Add("f", "new"), f.Cut("f", 0), f.Add("a.", "new"), f.Cut("a.", 2))
		return f
	}
	f := build()
	f.Crash([]int{1, 2, 3, 2, 9, 9, 9}, []int{1, 2, 4, 8, 255, 255, 255})
	holds(t, f, "a=o", "a.=ng", "b=old", "c=oldnes", "d=old", "e=", "f=", "z=nm")
	f = build()
	f.Crash([]int{1, 2, 3}, []int{1})
	holds(t, f, "a=o", "a.=ne", "b=old", "c=oldnew", "d=old", "e=", "f=", "z=")
	// What is left of the first two is nothing, and their numbers are used up nevertheless.
	f = build()
	f.Crash([]int{0, -5, 2, 3}, []int{255, 255, 0, 1})
	holds(t, f, "a=", "a.=", "b=old", "c=oldne", "d=old", "e=", "f=", "z=nev")
	f.Crash([]int{9}, []int{9})
	holds(t, f, "a=", "a.=", "b=old", "c=oldne", "d=old", "e=", "f=", "z=nev")
}

func TestF4AddedAfterwards(t *testing.T) {
	f := made(t, 100)
	done(t, f.Add("a", "abcd"))
	f.Crash([]int{2}, nil)
	done(t, f.Add("a", "xy"))
	holds(t, f, "a=abxy")
	f.Crash([]int{1}, nil)
	holds(t, f, "a=abx")
	is(t, "Cut", f.Cut("a", 4), api.ErrRange)
}

func TestP1AnyArguments(t *testing.T) {
	for _, f := range []*FS{made(t, 10), {}} {
		for range 3 {
			for _, name := range []string{"", "a", "A", "\x00", strings.Repeat("\xff", 100000), strings.Repeat("a", 100000)} {
				for _, n := range []int{math.MinInt, -1, 0, 1, math.MaxInt} {
					f.Add(name, name)
					f.Cut(name, n)
					f.Flush(name)
					f.Move(name, name)
					f.Move("a", name)
					f.Get(name)
					f.Crash([]int{n, n, n}, []int{n})
					f.Crash(make([]int, 1000), make([]int, 1000))
					f.Drop(name)
					f.Limit(n)
					f.Names()
				}
			}
		}
	}
}

// TestP1MadeByNobody: an FS that is not of New has no files, and no room.
func TestP1MadeByNobody(t *testing.T) {
	var f FS
	holds(t, &f)
	is(t, "Add of something", f.Add("a", "x"), api.ErrFull)
	is(t, "Add of nothing", f.Add("a", ""), api.OK)
	holds(t, &f, "a=")
}

func TestP3Lists(t *testing.T) {
	f := made(t, 100)
	done(t, f.Add("a", "xyz"), f.Add("b", "xyz"))
	left, spoil := []int{-1, 9, 7}, []int{3, 4, 5}
	f.Crash(left[:2], spoil[:1])
	if !slices.Equal(left, []int{-1, 9, 7}) || !slices.Equal(spoil, []int{3, 4, 5}) {
		t.Errorf("%v %v", left, spoil)
	}
	// Beyond their lengths stand numbers that were not handed in.
	holds(t, f, "a=", "b=xyz")
	l := f.Names()
	clear(l[:cap(l)])
	if l := f.Names(); !slices.Equal(l, []string{"a", "b"}) {
		t.Errorf("%q", l)
	}
}

func TestP4Apart(t *testing.T) {
	f, g := made(t, 100), made(t, 100)
	done(t, f.Add("a", "x"), g.Add("b", "y"))
	f.Limit(0)
	is(t, "one", f.Add("a", "x"), api.ErrDead)
	is(t, "the other", g.Add("b", "y"), api.OK)
	holds(t, g, "b=yy")
}
