package alter

import (
	"math"
	"math/rand"
	"slices"
	"strconv"
	"strings"

	"moult/api"
	"moult/schema"
	"moult/value"
)

func of(kind, n int, s string) api.Value { return api.Value{Kind: kind, N: n, S: s} }

func x(n int) string { return strings.Repeat("x", n) }

// field is one with a default that has this N.
func field(id, kind int, name string, n int) api.Field {
	return api.Field{ID: id, Kind: kind, Name: name, Default: of(kind, n, "")}
}

// example is the chapter's.
func example() api.Schema {
	return api.Schema{Version: 1, Next: 2, Fields: []api.Field{field(1, api.Int16, "a", 5)}}
}

// three has fields whose numbers neither begin with 1 nor rise, and is no first version.
func three() api.Schema {
	b := api.Field{ID: 3, Kind: api.Word, Name: "b", Default: of(api.Word, 0, "w")}
	return api.Schema{Version: 7, Next: 10, Fields: []api.Field{field(9, api.Bool, "a", 1), b, field(4, api.Int32, "c", -70000)}}
}

// wide has so many fields, of all kinds in turn, and the least Next for them.
func wide(many int) api.Schema {
	s := api.Schema{Version: 1, Next: many + 1}
	for i := range many {
		s.Fields = append(s.Fields, field(i+1, 1+i%6, "f"+strconv.Itoa(i), 0))
	}
	return s
}

func same(a, b api.Schema) bool {
	return a.Version == b.Version && a.Next == b.Next && slices.Equal(a.Fields, b.Fields)
}

// changed is the schema of three fields, but for what is made of it.
func changed(change func(s *api.Schema)) api.Schema {
	s := three()
	change(&s)
	return s
}

// wrong are schemas that are not valid.
func wrong() []api.Schema {
	l := []api.Schema{
		{},
		{Version: 1, Next: 1},
		wide(13),
		wide(999),
		changed(func(s *api.Schema) { s.Fields = nil }),
		changed(func(s *api.Schema) { s.Fields[2].ID = 3 }),
		changed(func(s *api.Schema) { s.Fields[2].Name = "a" }),
		changed(func(s *api.Schema) { s.Fields[2].Name = "C" }),
		changed(func(s *api.Schema) { s.Fields[0].Kind = api.Int16 }),
		changed(func(s *api.Schema) { s.Fields[0].Default.N = 2 }),
		changed(func(s *api.Schema) { s.Fields[1].Default.S = x(33) }),
		{Version: 1, Next: 2, Fields: make([]api.Field, 1<<16)},
	}
	for _, n := range []int{math.MinInt, -1, 0, 1000001, 1 << 32, math.MaxInt} {
		l = append(l, changed(func(s *api.Schema) { s.Version = n }))
	}
	for _, n := range []int{math.MinInt, -1, 0, 9, 1001, math.MaxInt} {
		l = append(l, changed(func(s *api.Schema) { s.Next = n }))
	}
	return l
}

// notNames are no names.
func notNames() []string {
	return []string{"", "A", "_", "1", "1a", "_a", "a ", " a", "a-", "é", "a\x00", "a\xff", "aA", x(25), x(1 << 16)}
}

func add(name string, v api.Value) api.Alter {
	return api.Alter{Op: api.AddField, Name: name, Kind: v.Kind, Default: v}
}

func drop(name string) api.Alter { return api.Alter{Op: api.DropField, Name: name} }

func rename(name, to string) api.Alter { return api.Alter{Op: api.RenameField, Name: name, To: to} }

func widen(name string, kind int) api.Alter {
	return api.Alter{Op: api.WidenField, Name: name, Kind: kind}
}

// isBelow is the relation as the document writes it.
func isBelow(a, b int) bool {
	return a == b && 1 <= a && a <= 6 || 1 <= a && a < b && b <= 4 || a == api.Word && b == api.Text
}

// checkedByWords is what the chapter's words say: the first of the reasons that holds.
func checkedByWords(s api.Schema, a api.Alter) api.Errno {
	type reason struct {
		holds bool
		e     api.Errno
	}
	has := func(name string) bool {
		return slices.ContainsFunc(s.Fields, func(f api.Field) bool { return f.Name == name })
	}
	l := []reason{{!schema.Right(s) || a.Op < 1 || a.Op > 4, api.ErrArg}}
	switch a.Op {
	case 1:
		l = append(l, reason{!schema.Name(a.Name), api.ErrName}, reason{has(a.Name), api.ErrThere},
			reason{len(s.Fields) == 12, api.ErrMany}, reason{s.Next == 1000, api.ErrMany},
			reason{!value.Right(a.Default), api.ErrKind}, reason{a.Default.Kind != a.Kind, api.ErrKind})
	case 2:
		l = append(l, reason{!has(a.Name), api.ErrNone}, reason{len(s.Fields) == 1, api.ErrRule})
	case 3:
		l = append(l, reason{!has(a.Name), api.ErrNone}, reason{!schema.Name(a.To), api.ErrName}, reason{has(a.To), api.ErrThere})
	case 4:
		kind := 0
		for _, f := range s.Fields {
			if f.Name == a.Name {
				kind = f.Kind
			}
		}
		l = append(l, reason{!has(a.Name), api.ErrNone}, reason{!isBelow(kind, a.Kind), api.ErrKind}, reason{kind == a.Kind, api.ErrKind})
	}
	l = append(l, reason{s.Version == 1000000, api.ErrRule})
	for _, r := range l {
		if r.holds {
			return r.e
		}
	}
	return api.OK
}

// nextByWords is what the chapter's words say of an alteration that may be.
func nextByWords(s api.Schema, a api.Alter) api.Schema {
	next := api.Schema{Version: s.Version + 1, Next: s.Next}
	for _, f := range s.Fields {
		if f.Name == a.Name {
			switch a.Op {
			case 2:
				continue
			case 3:
				f.Name = a.To
			case 4:
				f.Kind, f.Default.Kind = a.Kind, a.Kind
			}
		}
		next.Fields = append(next.Fields, f)
	}
	if a.Op == 1 {
		next.Fields = append(next.Fields, api.Field{ID: s.Next, Kind: a.Kind, Name: a.Name, Default: a.Default})
		next.Next = s.Next + 1
	}
	return next
}

// rowByWords is what the chapter's words say of valid schemas and a row that fits the first one.
func rowByWords(from, to api.Schema, l []api.Value) ([]api.Value, api.Errno) {
	var row []api.Value
	for _, f := range to.Fields {
		v := f.Default
		for i, g := range from.Fields {
			if g.ID == f.ID {
				v = l[i]
			}
		}
		if !isBelow(v.Kind, f.Kind) {
			return nil, api.ErrRule
		}
		v.Kind = f.Kind
		row = append(row, v)
	}
	return row, api.OK
}

// anyOf is some valid value of a kind.
func anyOf(r *rand.Rand, kind int) api.Value {
	switch kind {
	case api.Bool:
		return of(kind, r.Intn(2), "")
	case api.Int16, api.Int32, api.Int64:
		return of(kind, r.Intn(65536)-32768, "")
	}
	return of(kind, 0, strings.Repeat(string([]byte{byte(r.Intn(3))}), r.Intn(33)))
}

func anyName(r *rand.Rand) string { return string([]byte{'a' + byte(r.Intn(14))}) }

// anyRow fits the schema.
func anyRow(r *rand.Rand, s api.Schema) []api.Value {
	var l []api.Value
	for _, f := range s.Fields {
		l = append(l, anyOf(r, f.Kind))
	}
	return l
}

// anyFirst is valid, and a first version.
func anyFirst(r *rand.Rand, many int) []api.Field {
	var l []api.Field
	for i := range many {
		v := anyOf(r, 1+r.Intn(6))
		l = append(l, api.Field{ID: r.Intn(99), Kind: v.Kind, Name: string([]byte{'a' + byte(i)}), Default: v})
	}
	return l
}

// anySchema is valid at most times, and at the last version or number at some.
func anySchema(r *rand.Rand) api.Schema {
	s := api.Schema{Version: 1 + r.Intn(1000000), Next: 100 + r.Intn(901), Fields: anyFirst(r, 1+r.Intn(12))}
	for i, id := range r.Perm(99)[:len(s.Fields)] {
		s.Fields[i].ID = 1 + id
	}
	if r.Intn(8) == 0 {
		s.Version = 1000000
	}
	if r.Intn(8) == 0 {
		s.Next = 1000
	}
	if r.Intn(16) == 0 {
		s.Fields[r.Intn(len(s.Fields))].ID = r.Intn(3)
	}
	return s
}

// anyAlter may be done to most schemas that have one of many fields, but not always.
func anyAlter(r *rand.Rand) api.Alter {
	v := anyOf(r, 1+r.Intn(6))
	a := api.Alter{Op: 1 + r.Intn(4), Name: anyName(r), To: anyName(r), Kind: v.Kind, Default: v}
	switch r.Intn(12) {
	case 0:
		a.Op = r.Intn(7) - 1
	case 1:
		a.Name = strings.ToUpper(a.Name)
	case 2:
		a.To = strings.ToUpper(a.To)
	case 3:
		a.Kind = r.Intn(9) - 1
	case 4:
		a.Default.N = r.Intn(1 << 17)
	}
	return a
}
