package manifest

import (
	"math/rand"
	"testing"

	"moult/api"
	"moult/file"
	"moult/journal"
)

// twin does on files of its own what the chapter says that Set does, by calls of a journal.
type twin struct {
	files   *file.FS
	journal *journal.Journal
	state   State
	calls   int
}

func (w *twin) opened(t *testing.T) {
	t.Helper()
	j, l, e := journal.Open(w.files, "man", 100000)
	done(t, e)
	w.journal, w.calls, w.state = j, 0, first
	for _, batch := range l {
		if len(batch) == 1 {
			if s, e := Unpack(batch[0]); e == api.OK {
				w.state = s
			}
		}
	}
}

func (w *twin) set(s State) api.Errno {
	if !Right(s) || s.Next < w.state.Next || s.Seq < w.state.Seq || s.Log < w.state.Log {
		return api.ErrArg
	}
	w.calls++
	turns := w.calls%8 == 1
	if turns {
		if e := w.journal.Turn(); e != api.OK {
			return e
		}
	}
	if e := w.journal.Write([]string{encoded(s)}); e != api.OK {
		return e
	}
	w.state = s
	if turns {
		return w.journal.Trim(w.journal.Number())
	}
	return api.OK
}

func sameFiles(t *testing.T, f, g *file.FS) {
	t.Helper()
	names(t, f, g.Names()...)
	for _, name := range g.Names() {
		s, e := f.Get(name)
		w, we := g.Get(name)
		if s != w || e != we {
			t.Fatalf("%s: %.60q %v, not %.60q %v", name, s, e, w, we)
		}
	}
}

// randomState is often one that can follow.
func randomState(r *rand.Rand, now State) State {
	s := State{Next: now.Next + r.Intn(4), Seq: now.Seq + r.Intn(300), Log: now.Log + r.Intn(2), Meta: x(r.Intn(1 << r.Intn(15)))}
	switch r.Intn(12) {
	case 0:
		s.Next -= 2
	case 1:
		s.Seq -= 200
	case 2:
		s.Log--
	case 3:
		s.Meta = x(29999 + r.Intn(3))
	}
	for n := 1 + r.Intn(5); n < s.Next && len(s.Files) < 41; n += 1 + r.Intn(1+s.Next/8) {
		s.Files = append(s.Files, Place{n, r.Intn(4)})
	}
	return s
}

func randomNumbers(r *rand.Rand) []int {
	l := make([]int, r.Intn(4))
	for i := range l {
		l[i] = r.Intn(1<<r.Intn(11)) - 1
	}
	return l
}

// TestN3SetOfAny makes any calls on a manifest and on its twin, with little room and crashes: the answers and the files are the same.
func TestN3SetOfAny(t *testing.T) {
	for seed := range int64(40) {
		r := rand.New(rand.NewSource(seed))
		size := 100 << r.Intn(15)
		f, w := room(t, size), &twin{files: room(t, size)}
		for range 6 {
			w.opened(t)
			m := opens(t, f, w.state)
			limit := r.Intn(200) - 40
			f.Limit(limit)
			w.files.Limit(limit)
			for i := range 25 {
				s := randomState(r, w.state)
				if e, want := m.Set(s), w.set(s); e != want {
					t.Fatalf("Set %d of %.100v: %v, not %v", i, s, e, want)
				}
				has(t, m, w.state)
				sameFiles(t, f, w.files)
			}
			left, spoil := randomNumbers(r), randomNumbers(r)
			f.Crash(left, spoil)
			w.files.Crash(left, spoil)
		}
	}
}

// kept is the state of the last Set that returned OK, and that of the one that was interrupted.
type kept struct {
	state, interrupted State
	open               bool // whether there is an interrupted one
}

func (k *kept) opened(t *testing.T, f *file.FS) *Manifest {
	t.Helper()
	m, e := Open(f)
	if e != api.OK {
		t.Fatalf("Open: %v", e)
	}
	s := m.State()
	if k.open && same(s, k.interrupted) {
		k.state = s
	}
	if k.open = false; !same(s, k.state) {
		t.Fatalf("state %.200v, not %.200v", s, k.state)
	}
	return m
}

// play sets states until the power fails.
func (k *kept) play(t *testing.T, m *Manifest, next, many int) bool {
	t.Helper()
	for n := next; n < next+many; n++ {
		switch e := m.Set(numbered(n)); e {
		case api.OK:
			k.state = numbered(n)
		case api.ErrDead:
			k.interrupted, k.open = numbered(n), true
			return false
		default:
			t.Fatalf("Set: %v", e)
		}
	}
	return true
}

// TestN4EachCrash stops the power at each turn of some Sets; at the crash each number of bytes is left, the last one spoilt in some way.
func TestN4EachCrash(t *testing.T) {
	for limit, ended := 0, false; !ended; limit++ {
		for left := range 40 {
			for _, spoil := range []int{0, 1, 4, 128, 255} {
				f, k := room(t, 100000), &kept{state: first}
				f.Limit(limit)
				if m, e := Open(f); e == api.OK {
					ended = k.play(t, m, 1, 18)
				}
				f.Crash([]int{left}, []int{spoil})
				m := k.opened(t, f)
				k.play(t, m, 20, 2)
				f.Crash(nil, nil)
				k.opened(t, f)
			}
		}
	}
}

// TestN4ManyCrashes goes on with the same files after one crash and another, some of them in Open.
func TestN4ManyCrashes(t *testing.T) {
	for seed := range int64(60) {
		r := rand.New(rand.NewSource(seed))
		f, k, next := room(t, 1000000), &kept{state: first}, 1
		for range 30 {
			for range r.Intn(3) {
				f.Limit(r.Intn(3))
				Open(f)
				f.Crash(randomNumbers(r), randomNumbers(r))
			}
			m := k.opened(t, f)
			f.Limit(r.Intn(50))
			k.play(t, m, next, r.Intn(20))
			next += 20
			f.Crash(randomNumbers(r), randomNumbers(r))
		}
	}
}
