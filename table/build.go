package table

import (
	"slices"
	"strings"

	"moult/api"
	"moult/block"
	"moult/check"
	"moult/filter"
	"moult/varint"
)

const maxEntries = 500

// The filter and the counts stand behind the blocks.
const framesBehind = 2

// What a pair's value begins with; that of a dead entry has nothing else.
const (
	deadMark = "\x00"
	liveMark = "\x01"
)

// Build writes a file, Open reads one.
func Build(l []api.Entry) (string, api.Errno) {
	parts, e := payloads(l)
	if e != api.OK {
		return "", e
	}
	var b strings.Builder
	for _, part := range parts {
		f, e := check.Frame(part)
		if e != api.OK {
			return "", e
		}
		b.WriteString(f)
	}
	return b.String(), api.OK
}

// payloads are what the frames of a file of these entries have in them.
func payloads(l []api.Entry) ([]string, api.Errno) {
	if len(l) == 0 || !areRight(l) || !areOrdered(l) {
		return nil, api.ErrArg
	}
	if len(l) > maxEntries {
		return nil, api.ErrMany
	}
	var parts []string
	for _, row := range block.Split(pairs(l), api.MaxBlock) {
		part, e := block.Build(row)
		if e != api.OK {
			return nil, e
		}
		parts = append(parts, part)
	}
	return append(parts, filter.Build(keys(l)), counts(l)), api.OK
}

func areRight(l []api.Entry) bool {
	for _, e := range l {
		if !Right(e) {
			return false
		}
	}
	return true
}

func areOrdered(l []api.Entry) bool {
	for i := 1; i < len(l); i++ {
		if !Less(l[i-1], l[i]) {
			return false
		}
	}
	return true
}

// pairs are entries as they stand in blocks.
func pairs(l []api.Entry) []block.Pair {
	all := make([]block.Pair, len(l))
	for i, e := range l {
		value := liveMark + e.Data
		if e.Dead {
			value = deadMark
		}
		all[i] = block.Pair{Key: Inner(e.Key, e.Seq), Value: value}
	}
	return all
}

// keys are those of ordered entries, each once.
func keys(l []api.Entry) []string {
	all := make([]string, len(l))
	for i, e := range l {
		all[i] = e.Key
	}
	return slices.Compact(all)
}

// counts is the last frame's payload: how many entries there are, and how many of them cite which table and version.
func counts(l []api.Entry) string {
	all := cites(l)
	s := number(len(l)) + number(len(all))
	for _, c := range all {
		s += number(c.Table) + number(c.Version) + number(c.Rows)
	}
	return s
}

func number(n int) string { return varint.Put(uint64(n)) }

// entriesIn are those of the blocks among the payloads of a file, be they valid or not. It gives up where there are more
// than any file has, since blocks may tell of far more bytes of keys than they have.
func entriesIn(parts []string) ([]api.Entry, bool) {
	var l []api.Entry
	for _, part := range parts[:max(0, len(parts)-framesBehind)] {
		row, e := block.Read(part)
		if e != api.OK || len(l)+len(row) > maxEntries {
			return nil, false
		}
		for _, p := range row {
			one, ok := entryOf(p)
			if !ok {
				return nil, false
			}
			l = append(l, one)
		}
	}
	return l, true
}

// entryOf is the entry that stands as a pair in a block.
func entryOf(p block.Pair) (api.Entry, bool) {
	key, seq, ok := Outer(p.Key)
	if !ok {
		return api.Entry{}, false
	}
	if p.Value == deadMark {
		return api.Entry{Key: key, Seq: seq, Dead: true}, true
	}
	data, ok := strings.CutPrefix(p.Value, liveMark)
	if !ok {
		return api.Entry{}, false
	}
	return api.Entry{Key: key, Seq: seq, Data: data}, true
}
