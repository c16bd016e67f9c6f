package journal

import (
	"moult/api"
	"moult/varint"
)

// Batch are some texts' bytes, Unbatch reads them.
func Batch(l []string) (string, api.Errno) {
	if len(l) > api.MaxBatch {
		return "", api.ErrMany
	}
	s := varint.Put(uint64(len(l)))
	for _, text := range l {
		size := varint.Put(uint64(len(text)))
		// Ahead of laying them together, so that no more than fits ever is.
		if len(s)+len(size)+len(text) > api.MaxFrame {
			return "", api.ErrLong
		}
		s += size + text
	}
	return s, api.OK
}

func Unbatch(s string) ([]string, api.Errno) {
	many, rest, ok := varint.Take(s)
	if !ok || many > api.MaxBatch {
		return nil, api.ErrForm
	}
	var l []string
	for range many {
		size, behind, ok := varint.Take(rest)
		if !ok || size > uint64(len(behind)) {
			return nil, api.ErrForm
		}
		l, rest = append(l, behind[:size]), behind[size:]
	}
	if rest != "" {
		return nil, api.ErrForm
	}
	return l, api.OK
}
