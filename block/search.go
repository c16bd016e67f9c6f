package block

import (
	"moult/api"
	"moult/varint"
)

// short is a pair as it stands in a block: how many bytes of the key ahead of it begin its own, and what its own has behind them.
type short struct {
	common      uint64
	rest, value string
}

// search are the pairs of a block whose keys are wanted. It goes to the end of the block in any case, since what stands
// there may show that it is none.
func search(s string, wanted func(key []byte) bool) ([]Pair, api.Errno) {
	var l []Pair
	// One key that each pair changes, and not one for each: a short block may tell of far more bytes of keys than it has,
	// and those that are not wanted need not be laid out.
	var key []byte
	for left := s; left != ""; {
		p, behind, ok := first(left)
		if !ok || !p.follows(key, len(left) == len(s)) {
			return nil, api.ErrForm
		}
		key, left = append(key[:p.common], p.rest...), behind
		if wanted(key) {
			l = append(l, Pair{string(key), p.value})
		}
	}
	return l, api.OK
}

// first is the pair with which s begins, and what is behind it.
func first(s string) (short, string, bool) {
	var sizes [3]uint64
	for i := range sizes {
		var ok bool
		if sizes[i], s, ok = varint.Take(s); !ok {
			return short{}, "", false
		}
	}
	rest, behind, ok := cut(s, sizes[1])
	if !ok {
		return short{}, "", false
	}
	value, behind, ok := cut(behind, sizes[2])
	if !ok {
		return short{}, "", false
	}
	return short{sizes[0], rest, value}, behind, true
}

// cut divides s behind its first n bytes, if it has as many.
func cut(s string, n uint64) (string, string, bool) {
	if n > uint64(len(s)) {
		return "", "", false
	}
	return s[:n], s[n:], true
}

// follows tells whether a pair's key is greater than the one ahead of it, and the two have no more in common than it says.
func (p short) follows(previous []byte, isFirst bool) bool {
	size := uint64(len(previous))
	if p.common > size {
		return false
	}
	if p.rest == "" {
		// Only the empty key has nothing of its own, and nothing can be ahead of that.
		return isFirst
	}
	return p.common == size || p.rest[0] > previous[p.common]
}
