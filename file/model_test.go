package file

import (
	"fmt"
	"math/rand"
	"slices"
	"strings"
	"testing"

	"moult/api"
)

// piece and model are the chapter's words, each of them written down as it stands there.
type piece struct {
	bytes   string
	flushed bool
}

type model struct {
	room  int
	files map[string][]piece
	left  int // turns; negative: no limit
	dead  bool
}

func joined(l []piece) string {
	s := ""
	for _, p := range l {
		s += p.bytes
	}
	return s
}

func (m *model) used() int {
	n := 0
	for _, l := range m.files {
		n += len(joined(l))
	}
	return n
}

func (m *model) turn() bool {
	m.dead = m.left == 0
	m.left = max(m.left-1, -1)
	return !m.dead
}

// call makes one call of the model, at the last as a turn.
func (m *model) call(op, name, s string, n int) api.Errno {
	l, there := m.files[name]
	good := len(name) >= 1 && len(name) <= 24 && strings.Trim(name, "abcdefghijklmnopqrstuvwxyz0123456789.") == ""
	goodTo := len(s) >= 1 && len(s) <= 24 && strings.Trim(s, "abcdefghijklmnopqrstuvwxyz0123456789.") == ""
	switch {
	case m.dead:
		return api.ErrDead
	case op == "Add" && !good:
		return api.ErrName
	case op == "Add" && !there && len(m.files) >= 60:
		return api.ErrMany
	case op == "Add" && m.used()+len(s) > m.room:
		return api.ErrFull
	case op != "Add" && !there:
		return api.ErrNone
	case op == "Cut" && (n < 0 || n > len(joined(l))):
		return api.ErrRange
	case op == "Move" && !goodTo:
		return api.ErrName
	case !m.turn():
		return api.ErrDead
	}
	m.perform(op, name, s, n)
	return api.OK
}

func (m *model) perform(op, name, s string, n int) {
	l := m.files[name]
	switch op {
	case "Add":
		m.files[name] = append(slices.Clone(l), piece{s, false})
	case "Flush":
		for i := range l {
			l[i].flushed = true
		}
	case "Cut":
		var kept []piece
		for _, p := range l {
			k := min(n, len(p.bytes))
			kept, n = append(kept, piece{p.bytes[:k], p.flushed}), n-k
		}
		m.files[name] = kept
	case "Move":
		delete(m.files, name)
		m.files[s] = l
	case "Drop":
		delete(m.files, name)
	}
}

func (m *model) names() []string {
	l := make([]string, 0)
	for name := range m.files {
		l = append(l, name)
	}
	slices.Sort(l)
	return l
}

func (m *model) crash(left, spoil []int) {
	m.dead, m.left = false, -1
	k := 0
	for _, name := range m.names() {
		flushed, tail := "", ""
		for _, p := range m.files[name] {
			if p.flushed {
				flushed += p.bytes
			} else {
				tail += p.bytes
			}
		}
		if tail == "" {
			continue
		}
		n, x := 0, 0
		if k < len(left) && left[k] > 0 {
			n = min(left[k], len(tail))
		}
		if k < len(spoil) {
			x = spoil[k] & 255
		}
		kept := []byte(tail[:n])
		if n > 0 {
			kept[n-1] ^= byte(x)
		}
		m.files[name] = []piece{{flushed + string(kept), true}}
		k++
	}
}

func (m *model) compare(t *testing.T, f *FS, what string) {
	t.Helper()
	if l := f.Names(); !slices.Equal(l, m.names()) || f.Used() != m.used() || f.Dead() != m.dead {
		t.Fatalf("%s: %q %d %v, not %q %d %v", what, l, f.Used(), f.Dead(), m.names(), m.used(), m.dead)
	}
	for name, l := range m.files {
		want, wantE := joined(l), api.OK
		if m.dead {
			want, wantE = "", api.ErrDead
		}
		if s, e := f.Get(name); s != want || e != wantE {
			t.Fatalf("%s: %q holds %.40q %v, not %.40q %v", what, name, s, e, want, wantE)
		}
	}
}

func noise(r *rand.Rand, most int) string {
	b := make([]byte, r.Intn(most+1))
	r.Read(b)
	return string(b)
}

func numbers(r *rand.Rand) []int {
	l := make([]int, r.Intn(5))
	for i := range l {
		l[i] = r.Intn(24) - 3
	}
	return l
}

// step makes one call, of the files and of the model, and answers how it reads.
func step(t *testing.T, r *rand.Rand, f *FS, m *model) string {
	t.Helper()
	names := []string{"a", "b", "a.1", "a.10", "a.2", "c", "", "A"}
	name, to, s, n := names[r.Intn(len(names))], names[r.Intn(len(names))], noise(r, 12), r.Intn(20)-2
	var e, want api.Errno
	what := ""
	switch k := r.Intn(24); {
	case k < 8:
		what, e, want = "Add", f.Add(name, s), m.call("Add", name, s, 0)
	case k < 12:
		what, e, want = "Flush", f.Flush(name), m.call("Flush", name, "", 0)
	case k < 15:
		what, e, want = "Cut", f.Cut(name, n), m.call("Cut", name, "", n)
	case k < 18:
		what, e, want = "Move", f.Move(name, to), m.call("Move", name, to, 0)
	case k < 20:
		what, e, want = "Drop", f.Drop(name), m.call("Drop", name, "", 0)
	case k == 20 && !m.dead:
		f.Limit(n)
		what, m.left = "Limit", max(n, -1)
	case k > 20:
		left, spoil := numbers(r), numbers(r)
		f.Crash(left, spoil)
		m.crash(left, spoil)
		what = "Crash"
	}
	if e != want {
		t.Fatalf("%s %q %q %d: %v, not %v", what, name, s, n, e, want)
	}
	return fmt.Sprintf("%s %q %q %q %d", what, name, to, s, n)
}

// TestF2AsWritten holds many calls, one after the other, against the words of the chapter.
func TestF2AsWritten(t *testing.T) {
	for seed := range int64(60) {
		r := rand.New(rand.NewSource(seed))
		room := r.Intn(200)
		f, m := made(t, room), &model{room: room, files: map[string][]piece{}, left: -1}
		for range 500 {
			m.compare(t, f, step(t, r, f, m))
		}
	}
}

// TestF5AfterACrash: the names stay, what was flushed stays, and of what was added a prefix stays, but for its last byte.
func TestF5AfterACrash(t *testing.T) {
	for seed := range int64(2000) {
		r := rand.New(rand.NewSource(seed))
		f := made(t, 100000)
		flushed, added := map[string]string{}, map[string]string{}
		for i := range 1 + r.Intn(8) {
			name := "f" + fmt.Sprint(i)
			flushed[name], added[name] = noise(r, 20), noise(r, 20)
			done(t, f.Add(name, flushed[name]), f.Flush(name), f.Add(name, added[name]))
		}
		if r.Intn(2) == 0 {
			f.Limit(0)
			is(t, "Drop", f.Drop("f0"), api.ErrDead)
		}
		names := f.Names()
		f.Crash(numbers(r), numbers(r))
		if l := f.Names(); !slices.Equal(l, names) {
			t.Fatalf("%q, not %q", l, names)
		}
		for _, name := range names {
			s, e := f.Get(name)
			tail, ok := strings.CutPrefix(s, flushed[name])
			if e != api.OK || !ok || len(tail) > len(added[name]) {
				t.Fatalf("%q: %q %v of %q and %q", name, s, e, flushed[name], added[name])
			}
			if n := len(tail) - 1; n >= 0 && tail[:n] != added[name][:n] {
				t.Fatalf("%q: %q of %q", name, tail, added[name])
			}
		}
		before := make([]string, len(names))
		for i, name := range names {
			before[i], _ = f.Get(name)
		}
		f.Crash(numbers(r), numbers(r))
		for i, name := range names {
			if s, _ := f.Get(name); s != before[i] {
				t.Fatalf("%q: %q, not %q, at a second crash", name, s, before[i])
			}
		}
	}
}
