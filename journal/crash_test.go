package journal

import (
	"math/rand"
	"slices"
	"strings"
	"testing"

	"moult/api"
	"moult/file"
)

// kept is what a journal must have: the batches whose Write returned OK, each with the segment that it is in, and the one that may be there as well.
type kept struct {
	batches     [][]string
	numbers     []int
	interrupted []string
	open        bool // whether there is an interrupted one
}

func (k *kept) write(j *Journal, l []string) api.Errno {
	e := j.Write(l)
	if e == api.OK {
		k.batches, k.numbers = append(k.batches, l), append(k.numbers, j.Number())
	} else {
		k.interrupted, k.open = l, true
	}
	return e
}

// trim forgets the batches of the segments that went.
func (k *kept) trim(j *Journal, before int) api.Errno {
	e := j.Trim(before)
	left := j.Segments()
	for len(k.numbers) > 0 && k.numbers[0] < left[0] {
		k.batches, k.numbers = k.batches[1:], k.numbers[1:]
	}
	return e
}

// opened is a journal opened again: either without the interrupted batch or with it, at the end.
func (k *kept) opened(t *testing.T, f *file.FS, most int) *Journal {
	t.Helper()
	j, l, e := Open(f, "log", most)
	if e != api.OK {
		t.Fatalf("Open: %v", e)
	}
	if k.open && len(l) == len(k.batches)+1 {
		k.batches, k.numbers = append(k.batches, k.interrupted), append(k.numbers, j.Number())
	}
	if k.open = false; !same(l, k.batches) {
		t.Fatalf("Open: %.300q, not %.300q", l, k.batches)
	}
	return j
}

// play makes some calls, until one fails, which the power is the only reason for.
func (k *kept) play(t *testing.T, j *Journal, calls string) {
	t.Helper()
	for i, c := range calls {
		e := api.OK
		switch c {
		case 'w':
			e = k.write(j, []string{"batch", calls[:i], ""})
		case 'l':
			e = k.write(j, []string{x(300)})
		case 'n':
			e = k.write(j, nil)
		case 't':
			e = j.Turn()
		case 'c':
			e = k.trim(j, j.Number()-1)
		}
		if e != api.OK && e != api.ErrDead {
			t.Fatalf("call %d of %q: %v", i, calls, e)
		}
		if e != api.OK {
			return
		}
	}
}

// TestJ5EachCrash plays some calls with each limit of turns; at the crash each number of bytes is left, the last one spoilt in each way.
func TestJ5EachCrash(t *testing.T) {
	spoilt := []int{0, 1, 2, 4, 8, 16, 32, 64, 128, 255, 0x61}
	for calls, most := range map[string]int{"wwwwww": 40, "nnn": 1000, "wnwtwnctwwccnw": 60, "nwnlwct": 1} {
		for limit := 0; ; limit++ {
			ended := false
			for left := range 30 {
				for _, spoil := range spoilt {
					f := room(t, 100000)
					k := &kept{}
					j := k.opened(t, f, most)
					f.Limit(limit)
					k.play(t, j, calls)
					ended = !f.Dead()
					f.Crash([]int{left}, []int{spoil})
					k.opened(t, f, most)
				}
			}
			if ended {
				break
			}
		}
	}
}

// TestJ5AllOfTheFrame: a batch of which all bytes are left as they were is there; of one that lacks a byte, or has another one, nothing is.
func TestJ5AllOfTheFrame(t *testing.T) {
	l := []string{"abc", "", x(300)}
	size := len(frame(t, l...))
	for left := range size + 2 {
		for spoil := range 256 {
			if spoil > 2 && left < size-1 && left > 4 {
				continue
			}
			f := room(t, 1000)
			j := opens(t, f, 1000)
			f.Limit(1)
			is(t, "Write", j.Write(l), api.ErrDead)
			f.Crash([]int{left}, []int{spoil})
			if left >= size && spoil == 0 {
				opens(t, f, 1000, l)
			} else {
				opens(t, f, 1000)
				holds(t, f, "log.1=")
			}
		}
	}
}

// TestJ5OpenIsInterrupted: the power fails at each turn of Open too, and what it cut off does not come back.
func TestJ5OpenIsInterrupted(t *testing.T) {
	for limit := range 3 {
		for left := range 20 {
			f := room(t, 1000)
			k := &kept{}
			j := k.opened(t, f, 40)
			done(t, k.write(j, []string{"a"}), k.write(j, []string{"b", "c"}))
			f.Limit(1)
			is(t, "Write", k.write(j, []string{"interrupted"}), api.ErrDead)
			f.Crash([]int{left}, []int{left % 3})
			f.Limit(limit)
			if _, _, e := Open(f, "log", 40); e != api.OK && e != api.ErrDead {
				t.Fatal(e)
			}
			f.Crash([]int{left}, nil)
			j = k.opened(t, f, 40)
			done(t, k.write(j, []string{"behind"}))
			f.Crash(nil, nil)
			k.opened(t, f, 40)
		}
	}
	// The first Open of all is one turn, with or without which there are no batches.
	for limit := range 2 {
		f := room(t, 1000)
		f.Limit(limit)
		Open(f, "log", 40)
		f.Crash(nil, nil)
		opens(t, f, 40)
	}
}

func randomBatch(r *rand.Rand) []string {
	l := make([]string, r.Intn(5))
	for i := range l {
		l[i] = noise(r.Intn(1<<r.Intn(10)), r.Int63())
	}
	return l
}

func randomNumbers(r *rand.Rand) []int {
	l := make([]int, r.Intn(4))
	for i := range l {
		l[i] = r.Intn(1<<r.Intn(11)) - 1
	}
	return l
}

// asWritten holds the files of a journal against its batches: each segment has the frames of its own, and nothing else.
func (k *kept) asWritten(t *testing.T, f *file.FS, j *Journal) {
	t.Helper()
	for _, n := range j.Segments() {
		var want strings.Builder
		for i, l := range k.batches {
			if k.numbers[i] == n {
				want.WriteString(frame(t, l...))
			}
		}
		if s, e := f.Get(j.file(n)); s != want.String() || e != api.OK {
			t.Fatalf("segment %d: %.60q %v, not %.60q", n, s, e, want.String())
		}
	}
}

// TestJ5ManyCrashes makes any calls, with a crash after some of them, over and over on the same files.
func TestJ5ManyCrashes(t *testing.T) {
	for seed := range int64(150) {
		r := rand.New(rand.NewSource(seed))
		f, k, most := room(t, 10000000), &kept{}, r.Intn(3000)-10
		for range 40 {
			for range r.Intn(3) {
				f.Limit(r.Intn(3))
				Open(f, "log", most)
				f.Crash(randomNumbers(r), randomNumbers(r))
			}
			j := k.opened(t, f, most)
			k.asWritten(t, f, j)
			if r.Intn(4) > 0 {
				f.Limit(r.Intn(40))
			}
			for range r.Intn(20) {
				if f.Dead() {
					break
				}
				k.randomCall(t, r, j)
			}
			if !f.Dead() {
				f.Limit(-1)
				k.asWritten(t, f, j)
			}
			f.Crash(randomNumbers(r), randomNumbers(r))
		}
	}
}

func (k *kept) randomCall(t *testing.T, r *rand.Rand, j *Journal) {
	t.Helper()
	before, e := j.Segments(), api.OK
	switch n := r.Intn(20); {
	case n < 14:
		e = k.write(j, randomBatch(r))
	case n < 16 && len(before) < 50:
		if e = j.Turn(); e == api.OK {
			has(t, j, append(slices.Clone(before), before[len(before)-1]+1)...)
		}
	case n < 18:
		e = k.trim(j, j.Number()-r.Intn(4))
	case len(before) > 40:
		e = k.trim(j, j.Number())
	}
	if e != api.OK && e != api.ErrDead {
		t.Fatal(e)
	}
}
