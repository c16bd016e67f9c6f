package journal

import (
	"moult/api"
	"moult/check"
	"moult/file"
)

// segment is a file of a journal, and what reads it: a crash can leave pieces of a frame in the last one alone, so that there they are no error.
type segment struct {
	name string
	read func(f *file.FS, name string) ([][]string, api.Errno)
}

// segmentsOf makes segments of files, the last of which is the last segment.
func segmentsOf(names []string) []segment {
	var l []segment
	for i, name := range names {
		read := whole
		if i == len(names)-1 {
			read = mended
		}
		l = append(l, segment{name, read})
	}
	return l
}

// readAll are the batches of all segments, one segment behind the other.
func readAll(f *file.FS, l []segment) ([][]string, api.Errno) {
	var all [][]string
	for _, s := range l {
		part, e := s.read(f, s.name)
		if e != api.OK {
			return nil, e
		}
		all = append(all, part...)
	}
	return all, api.OK
}

// whole reads a segment that must have frames of batches alone.
func whole(f *file.FS, name string) ([][]string, api.Errno) {
	s, e := f.Get(name)
	if e != api.OK {
		return nil, e
	}
	l, _, e := batches(s)
	if e != api.OK {
		return nil, e
	}
	return l, api.OK
}

// mended reads a segment, and removes what is not the frame of a batch with all that is behind it.
func mended(f *file.FS, name string) ([][]string, api.Errno) {
	s, e := f.Get(name)
	if e != api.OK {
		return nil, e
	}
	l, size, _ := batches(s)
	if size == len(s) {
		return l, api.OK
	}
	if e := f.Cut(name, size); e != api.OK {
		return nil, e
	}
	if e := f.Flush(name); e != api.OK {
		return nil, e
	}
	return l, api.OK
}

// batches are those with whose frames s begins, how many bytes these frames have, and the error of what stands behind them.
func batches(s string) ([][]string, int, api.Errno) {
	var all [][]string
	for left := s; left != ""; {
		l, rest, e := first(left)
		if e != api.OK {
			return all, len(s) - len(left), e
		}
		all, left = append(all, l), rest
	}
	return all, len(s), api.OK
}

// first is the batch with whose frame s begins, and what is behind it.
func first(s string) ([]string, string, api.Errno) {
	payload, rest, e := check.Unframe(s)
	if e == api.ErrLong {
		return nil, "", api.ErrForm
	}
	if e != api.OK {
		return nil, "", e
	}
	l, e := Unbatch(payload)
	if e != api.OK {
		return nil, "", e
	}
	return l, rest, api.OK
}
