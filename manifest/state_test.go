package manifest

import (
	"math"
	"math/rand"
	"slices"
	"strings"
	"testing"

	"moult/api"
	"moult/varint"
)

const great = 1 << 40

func x(n int) string { return strings.Repeat("x", n) }

// put are numbers as the chapter's words say that they are written.
func put(l ...int) string {
	s := ""
	for _, n := range l {
		s += varint.Put(uint64(n))
	}
	return s
}

// places makes files of pairs of a number and a level.
func places(l ...int) []Place {
	var files []Place
	for i := 0; i < len(l); i += 2 {
		files = append(files, Place{l[i], l[i+1]})
	}
	return files
}

// row are so many files, the first of which has this number.
func row(first, many int) []Place {
	var files []Place
	for i := range many {
		files = append(files, Place{first + i, i % 4})
	}
	return files
}

// encoded is the encoding of a state, valid or not.
func encoded(s State) string {
	text := put(s.Next, s.Seq, s.Log, len(s.Files))
	for _, p := range s.Files {
		text += put(p.Number, p.Level)
	}
	return text + s.Meta
}

func same(a, b State) bool {
	return slices.Equal(a.Files, b.Files) && a.Next == b.Next && a.Seq == b.Seq && a.Log == b.Log && a.Meta == b.Meta
}

// valid are states up to each border of the chapter's words.
func valid() map[string]State {
	return map[string]State{
		"the first one":      {Next: 1, Log: 1},
		"an empty list":      {Files: []Place{}, Next: 1, Log: 1},
		"one file":           {Files: places(1, 0), Next: 2, Log: 1},
		"the last number":    {Files: places(6, 3), Next: 7, Seq: 1, Log: 2},
		"some files":         {Files: places(1, 3, 2, 0, 5, 2, 9, 1, 300, 0), Next: 70000, Seq: 241, Log: 2288, Meta: "m\x00\xff"},
		"no files left":      {Next: 1000, Seq: 999, Log: 17, Meta: "é"},
		"the greatest":       {Files: places(1, 3, great-2, 0, great-1, 3), Next: great, Seq: great, Log: great, Meta: x(30000)},
		"39 files":           {Files: row(1, 39), Next: 40, Log: 1},
		"40 files":           {Files: row(1, 40), Next: 41, Log: 1},
		"40 great files":     {Files: row(great-40, 40), Next: great, Seq: great, Log: great, Meta: x(30000)},
		"meta like files":    {Next: 3, Seq: 2, Log: 1, Meta: put(1, 0, 2, 0)},
		"meta of one byte":   {Files: places(1, 1), Next: 2, Log: 1, Meta: "\x00"},
		"meta of most bytes": {Next: 1, Log: 1, Meta: strings.Repeat("\xff", 30000)},
	}
}

// wrong are states each of which lacks one thing to be valid.
func wrong() map[string]State {
	m := map[string]State{
		"the zero one":       {},
		"number of next":     {Files: places(5, 0), Next: 5, Log: 1},
		"number behind next": {Files: places(1, 0, 6, 0), Next: 5, Log: 1},
		"number and next 1":  {Files: places(1, 0), Next: 1, Log: 1},
		"numbers decrease":   {Files: places(2, 0, 1, 0), Next: 5, Log: 1},
		"numbers the same":   {Files: places(1, 0, 1, 1), Next: 5, Log: 1},
		"the last decreases": {Files: places(1, 0, 2, 0, 4, 0, 3, 0), Next: 5, Log: 1},
		"number 0":           {Files: places(0, 0), Next: 5, Log: 1},
		"number 0 and 1":     {Files: places(0, 0, 1, 0), Next: 5, Log: 1},
		"number -1":          {Files: places(-1, 0), Next: 5, Log: 1},
		"the least number":   {Files: places(math.MinInt, 0), Next: 5, Log: 1},
		"greatest number":    {Files: places(math.MaxInt, 0), Next: 5, Log: 1},
		"number beyond next": {Files: places(math.MaxInt, 0, math.MinInt, 0), Next: great, Log: 1},
		"41 files":           {Files: row(1, 41), Next: 99, Log: 1},
		"1000 files":         {Files: row(1, 1000), Next: 2000, Log: 1},
		"long meta":          {Next: 1, Log: 1, Meta: x(30001)},
		"very long meta":     {Next: 1, Log: 1, Meta: x(1 << 20)},
	}
	for _, n := range []int{-1, 4, 5, 256, -256, math.MinInt, math.MaxInt} {
		m["level "+put(n)] = State{Files: places(1, n), Next: 5, Log: 1}
		m["second level "+put(n)] = State{Files: places(1, 0, 2, n), Next: 5, Log: 1}
	}
	for _, n := range []int{-1, great + 1, 1<<41 + 1, math.MinInt, math.MaxInt} {
		m["next "+put(n)] = State{Next: n, Log: 1}
		m["seq "+put(n)] = State{Next: 1, Seq: n, Log: 1}
		m["log "+put(n)] = State{Next: 1, Log: n}
		m["next with a file "+put(n)] = State{Files: places(1, 0), Next: n, Log: 1}
	}
	m["next 0"], m["log 0"] = State{Log: 1}, State{Next: 1}
	m["next 0 with a file"] = State{Files: places(1, 0), Log: 1}
	m["least next with the greatest file"] = State{Files: places(math.MaxInt, 0), Next: math.MinInt, Log: 1}
	return m
}

func TestN1Right(t *testing.T) {
	for name, s := range valid() {
		if !Right(s) {
			t.Errorf("%s: not valid", name)
		}
	}
	for name, s := range wrong() {
		if Right(s) {
			t.Errorf("%s: valid", name)
		}
	}
}

// TestN1RightOfAny asks for each word of the chapter by itself, of small states.
func TestN1RightOfAny(t *testing.T) {
	r := rand.New(rand.NewSource(1))
	count := 0
	for range 20000 {
		s := State{Next: r.Intn(6) - 1, Seq: r.Intn(4) - 1, Log: r.Intn(4) - 1}
		for range r.Intn(4) {
			s.Files = append(s.Files, Place{r.Intn(6) - 1, r.Intn(7) - 1})
		}
		want := s.Next >= 1 && s.Seq >= 0 && s.Log >= 1
		for i, p := range s.Files {
			want = want && p.Number >= 1 && p.Number < s.Next && p.Level >= 0 && p.Level <= 3 && (i == 0 || s.Files[i-1].Number < p.Number)
		}
		if want {
			count++
		}
		_, e := Pack(s)
		u, eu := Unpack(encoded(s))
		if Right(s) != want || (e == api.OK) != want || (eu == api.OK) != want || want && !same(u, s) {
			t.Fatalf("%v: %v %v %v, not %v", s, Right(s), e, eu, want)
		}
	}
	if count < 500 {
		t.Errorf("only %d valid ones", count)
	}
}

func TestN1Pack(t *testing.T) {
	for _, c := range []struct {
		s    State
		want string
	}{
		{State{Next: 1, Log: 1}, "\x01\x00\x01\x00"},
		{State{Next: 3, Seq: 5, Log: 1, Files: places(1, 0, 2, 1)}, "\x03\x05\x01\x02\x01\x00\x02\x01"},
		{State{Next: 300, Seq: 240, Log: 241, Files: places(299, 3), Meta: "m\x00"}, "\xf1\x3c\xf0\xf1\x01\x01\xf1\x3b\x03m\x00"},
		{State{Next: great, Seq: great, Log: great}, "\xfd\x01\x00\x00\x00\x00\x00\xfd\x01\x00\x00\x00\x00\x00\xfd\x01\x00\x00\x00\x00\x00\x00"},
	} {
		if s, e := Pack(c.s); s != c.want || e != api.OK {
			t.Errorf("Pack(%v): %q %v, not %q", c.s, s, e, c.want)
		}
	}
	for name, s := range valid() {
		if text, e := Pack(s); text != encoded(s) || e != api.OK {
			t.Errorf("%s: %.60q %v", name, text, e)
		}
	}
	for name, s := range wrong() {
		if text, e := Pack(s); text != "" || e != api.ErrArg {
			t.Errorf("%s: %.60q %v", name, text, e)
		}
	}
}

func TestN1Unpack(t *testing.T) {
	for name, s := range valid() {
		if u, e := Unpack(encoded(s)); !same(u, s) || e != api.OK {
			t.Errorf("%s: %v %v", name, u, e)
		}
	}
}

func none(t *testing.T, what, s string) {
	t.Helper()
	if u, e := Unpack(s); !same(u, State{}) || e != api.ErrForm {
		t.Errorf("Unpack of %s, %.60q: %v %v", what, s, u, e)
	}
}

func TestN1UnpackOfNone(t *testing.T) {
	for name, s := range wrong() {
		none(t, name, encoded(s))
	}
	for _, s := range []string{
		"", "\x01", "\x01\x00", "\x01\x00\x01", // less than four numbers
		"\x02\x00\x01\x01", "\x02\x00\x01\x01\x01", "\x03\x00\x01\x02\x01\x00\x02", // files that are not there
		"\xf1", "\x01\xf1", "\x01\x00\xff\x01", "\x01\x00\x01\xf9\x00", // a number that is cut short
		"\xf1\x00\x00\x01\x00", "\xfa\x00\x00\x01\x00\x01\x00", "\x01\xf9\x00\x01\x00", "\x02\x00\x01\x01\xfa\x00\x00\x01\x00", // in more bytes than it needs
	} {
		none(t, "wrong bytes", s)
	}
	// Numbers that no int holds, or that are as great as a list of 40 files is not, in each place.
	for _, n := range []uint64{41, 42, 1 << 31, 1 << 32, 1 << 33, 1<<63 - 1, 1 << 63, 1<<63 + 1, math.MaxUint64 - 39, math.MaxUint64} {
		none(t, "a count", "\x63\x00\x01"+varint.Put(n)+strings.Repeat("\x01", 100))
		none(t, "a count alone", "\x63\x00\x01"+varint.Put(n))
		none(t, "a level", "\x63\x00\x01\x01\x01"+varint.Put(n))
	}
	for _, n := range []uint64{great + 1, 1 << 63, 1<<63 + 1, 1<<63 + great, math.MaxUint64} {
		none(t, "next", varint.Put(n)+"\x00\x01\x00")
		none(t, "seq", "\x63"+varint.Put(n)+"\x01\x00")
		none(t, "log", "\x63\x00"+varint.Put(n)+"\x00")
		none(t, "a number", "\x63\x00\x01\x01"+varint.Put(n)+"\x00")
	}
}

func TestN1UnpackOfCut(t *testing.T) {
	for name, s := range valid() {
		text := encoded(s)
		head := len(text) - len(s.Meta)
		for n := range head {
			none(t, name, text[:n])
		}
		// Behind the files each string of up to 30000 bytes is a Meta.
		for _, meta := range []string{"", "\x00", text[:min(len(text), 9)]} {
			want := s
			want.Meta = meta
			if u, e := Unpack(text[:head] + meta); !same(u, want) || e != api.OK {
				t.Errorf("%s with other meta: %v %v", name, u, e)
			}
		}
		none(t, name, text[:head]+x(30001))
	}
}

// TestN1UnpackOfAny: of strings of small bytes those are read that a valid state is written as.
func TestN1UnpackOfAny(t *testing.T) {
	count := 0
	alphabet := "\x00\x01\x02\x03\x04\x05\x28\xf1"
	for n := range 8 {
		for i := range 1 << (3 * n) {
			if n == 7 && i%11 > 0 {
				continue
			}
			b := make([]byte, n)
			for k := range b {
				b[k] = alphabet[i>>(3*k)&7]
			}
			s, e := Unpack(string(b))
			if e == api.OK != isEncoding(string(b)) || e == api.OK && encoded(s) != string(b) || e != api.OK && (e != api.ErrForm || !same(s, State{})) {
				t.Fatalf("Unpack(%q): %v %v", b, s, e)
			}
			if e == api.OK {
				count++
			}
		}
	}
	if count < 1000 {
		t.Errorf("only %d valid ones", count)
	}
}

// isEncoding tells whether a string of bytes up to 240, but for 241 with one behind it, is the encoding of a valid state.
func isEncoding(s string) bool {
	var l []int
	for k := 0; k < len(s); k++ {
		// 241 and 0 are the two bytes of 240, which one byte tells.
		if s[k] == 241 && (len(l) < 4 || len(l) < 4+2*l[3]) {
			if k+1 == len(s) || s[k+1] == 0 {
				return false
			}
			l = append(l, 240+int(s[k+1]))
			k++
		} else {
			l = append(l, int(s[k]))
		}
	}
	if len(l) < 4 || l[0] < 1 || l[2] < 1 || l[3] > 40 || len(l) < 4+2*l[3] {
		return false
	}
	for i, least := 4, 1; i < 4+2*l[3]; i += 2 {
		if l[i] < least || l[i] >= l[0] || l[i+1] > 3 {
			return false
		}
		least = l[i] + 1
	}
	return true
}

func TestP3StatesShareNothing(t *testing.T) {
	l := places(1, 0, 2, 1, 3, 2)
	text, e := Pack(State{Files: l[:2], Next: 9, Log: 1})
	if text != "\x09\x00\x01\x02\x01\x00\x02\x01" || e != api.OK || !slices.Equal(l, places(1, 0, 2, 1, 3, 2)) {
		t.Errorf("%q %v %v", text, e, l)
	}
	a, _ := Unpack(text)
	b, _ := Unpack(text)
	clear(a.Files[:cap(a.Files)])
	if !slices.Equal(b.Files, places(1, 0, 2, 1)) {
		t.Errorf("%v", b.Files)
	}
}
