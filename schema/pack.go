package schema

import (
	"moult/api"
	"moult/key"
	"moult/varint"
)

// The numbers of tables, and the versions of rows, also of those that no schema has.
const mostCited = 1000000

// Put writes a row, Take reads one.
func Put(table int, r api.Row) (string, api.Errno) {
	if !isWithin(table, 0, mostCited) || !isWithin(r.Version, 0, mostCited) || len(r.Values) > api.MaxFields {
		return "", api.ErrArg
	}
	values, e := key.Tuple(r.Values)
	if e != api.OK {
		return "", api.ErrArg
	}
	return number(table) + number(r.Version) + number(len(r.Values)) + values, api.OK
}

func Take(data string) (int, api.Row, api.Errno) {
	in := input{rest: data}
	table := in.number(mostCited)
	version := in.number(mostCited)
	many := in.number(api.MaxFields)
	values, e := key.Untuple(in.rest)
	if in.bad || e != api.OK || len(values) != many {
		return 0, api.Row{}, api.ErrForm
	}
	return table, api.Row{Version: version, Values: values}, api.OK
}

// Pack writes a schema, Unpack reads one.
func Pack(s api.Schema) (string, api.Errno) {
	if !Right(s) {
		return "", api.ErrArg
	}
	text := number(s.Version) + number(s.Next) + number(len(s.Fields))
	for f := range fields(s) {
		// A valid schema's defaults are valid, so that each has an encoding.
		standard, _ := key.Put(f.Default)
		text += number(f.ID) + number(f.Kind) + number(len(f.Name)) + f.Name + standard
	}
	return text, api.OK
}

func Unpack(s string) (api.Schema, string, api.Errno) {
	in := input{rest: s}
	var out api.Schema
	out.Version = in.number(mostVersion)
	out.Next = in.number(mostNext)
	for f := range in.fields(in.number(api.MaxFields)) {
		out.Fields = append(out.Fields, f)
	}
	if in.bad || !Right(out) {
		return api.Schema{}, "", api.ErrForm
	}
	return out, in.rest, api.OK
}

func number(n int) string { return varint.Put(uint64(n)) }
