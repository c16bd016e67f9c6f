package table

import (
	"cmp"
	"slices"

	"moult/api"
	"moult/varint"
)

const (
	maxKey   = 1200
	maxData  = 25000
	maxSeq   = 1 << 40
	maxCited = 1000000
)

func Right(e api.Entry) bool {
	if len(e.Key) > maxKey || e.Seq < 1 || e.Seq > maxSeq {
		return false
	}
	if e.Dead {
		return e.Data == ""
	}
	_, _, ok := Cite(e.Data)
	return ok && len(e.Data) <= maxData
}

// Cite is what data cite: a table, a version.
func Cite(data string) (int, int, bool) {
	table, rest, ok := cited(data)
	if !ok {
		return 0, 0, false
	}
	version, _, ok := cited(rest)
	if !ok {
		return 0, 0, false
	}
	return table, version, true
}

// cited is the number with which s begins, and what is behind it, if a table or a version may have that number.
func cited(s string) (int, string, bool) {
	n, rest, ok := varint.Take(s)
	if !ok || n > maxCited {
		return 0, "", false
	}
	return int(n), rest, true
}

// cites counts the entries that cite each table and version, in the order of these.
func cites(l []api.Entry) []api.Cite {
	var each []api.Cite
	for _, e := range l {
		// Dead entries have no data, which cite nothing.
		if table, version, ok := Cite(e.Data); ok {
			each = append(each, api.Cite{Table: table, Version: version, Rows: 1})
		}
	}
	slices.SortFunc(each, byVersion)
	var summed []api.Cite
	for _, c := range each {
		if last := len(summed) - 1; last >= 0 && byVersion(summed[last], c) == 0 {
			summed[last].Rows++
		} else {
			summed = append(summed, c)
		}
	}
	return summed
}

func byVersion(a, b api.Cite) int {
	return cmp.Or(cmp.Compare(a.Table, b.Table), cmp.Compare(a.Version, b.Version))
}

// Less tells whether an entry stands ahead of another one.
func Less(a, b api.Entry) bool {
	if a.Key != b.Key {
		return a.Key < b.Key
	}
	return a.Seq > b.Seq
}
