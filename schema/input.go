package schema

import (
	"moult/api"
	"moult/key"
	"moult/varint"
)

// input is a text, as far as it is still to be read. It is bad from the first time on that what is asked for does not come
// next, and what it then answers means nothing.
type input struct {
	rest string
	bad  bool
}

func (in *input) number(most int) int {
	n, rest, ok := varint.Take(in.rest)
	if !ok || n > uint64(most) {
		in.bad = true
		return 0
	}
	in.rest = rest
	return int(n)
}

func (in *input) text(size int) string {
	if len(in.rest) < size {
		in.bad = true
		return ""
	}
	s := in.rest[:size]
	in.rest = in.rest[size:]
	return s
}

func (in *input) value() api.Value {
	v, rest, e := key.Take(in.rest)
	if e != api.OK {
		in.bad = true
		return api.Value{}
	}
	in.rest = rest
	return v
}

func (in *input) field() api.Field {
	var f api.Field
	f.ID = in.number(mostNext)
	f.Kind = in.number(api.Text)
	f.Name = in.text(in.number(api.MaxName))
	f.Default = in.value()
	return f
}
