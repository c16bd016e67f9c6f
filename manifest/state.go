package manifest

import (
	"slices"
	"strings"

	"moult/api"
	"moult/varint"
)

const (
	mostFiles  = 40
	mostNumber = 1 << 40
	mostMeta   = 30000
)

// Place is a table file's: its number, its level.
type Place struct {
	Number, Level int
}

// State is what a store consists of.
type State struct {
	Files          []Place
	Next, Seq, Log int
	Meta           string
}

func Right(s State) bool {
	return isWithin(s.Next, 1, mostNumber) && isWithin(s.Seq, 0, mostNumber) && isWithin(s.Log, 1, mostNumber) &&
		len(s.Files) <= mostFiles && areRight(s.Files, s.Next) &&
		len(s.Meta) <= mostMeta
}

// areRight tells whether files may stand together in a state whose next number this is.
func areRight(files []Place, next int) bool {
	least := 1
	for _, p := range files {
		if !isWithin(p.Number, least, next-1) || !isWithin(p.Level, 0, api.MaxLevel-1) {
			return false
		}
		least = p.Number + 1
	}
	return true
}

func isWithin(n, least, most int) bool { return least <= n && n <= most }

// mayBecome tells whether nothing that only grows is less in the other state.
func (s State) mayBecome(other State) bool {
	return s.Next <= other.Next && s.Seq <= other.Seq && s.Log <= other.Log
}

// copied has a list of files of its own.
func (s State) copied() State {
	s.Files = slices.Clone(s.Files)
	return s
}

// Pack writes a state, Unpack reads one.
func Pack(s State) (string, api.Errno) {
	if !Right(s) {
		return "", api.ErrArg
	}
	text := written(s.Next, s.Seq, s.Log, len(s.Files))
	for _, p := range s.Files {
		text += written(p.Number, p.Level)
	}
	return text + s.Meta, api.OK
}

func Unpack(s string) (State, api.Errno) {
	var state State
	var many int
	rest, ok := taken(s, &state.Next, &state.Seq, &state.Log, &many)
	if !ok || !isWithin(many, 0, mostFiles) {
		return State{}, api.ErrForm
	}
	for range many {
		var p Place
		if rest, ok = taken(rest, &p.Number, &p.Level); !ok {
			return State{}, api.ErrForm
		}
		state.Files = append(state.Files, p)
	}
	if state.Meta = rest; !Right(state) {
		return State{}, api.ErrForm
	}
	return state, api.OK
}

// written are numbers, one behind the other.
func written(numbers ...int) string {
	var b strings.Builder
	for _, n := range numbers {
		b.WriteString(varint.Put(uint64(n)))
	}
	return b.String()
}

// taken reads as many numbers as there are places for them, and answers what is behind them. One that no int holds becomes negative, as which no state is valid.
func taken(s string, places ...*int) (string, bool) {
	for _, p := range places {
		n, rest, ok := varint.Take(s)
		if !ok {
			return "", false
		}
		*p, s = int(n), rest
	}
	return s, true
}
