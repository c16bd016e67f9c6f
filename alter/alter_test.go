package alter

import (
	"math"
	"math/rand"
	"slices"
	"testing"

	"moult/api"
	"moult/lattice"
	"moult/schema"
)

func isNone(s api.Schema) bool { return s.Version == 0 && s.Next == 0 && len(s.Fields) == 0 }

func TestDocument(t *testing.T) {
	s := example()
	b := add("b", of(api.Word, 0, "x"))
	next, e := Next(s, b)
	want := api.Schema{Version: 2, Next: 3, Fields: []api.Field{s.Fields[0], {ID: 2, Kind: api.Word, Name: "b", Default: b.Default}}}
	if !same(next, want) || e != api.OK {
		t.Error(next, e)
	}
	l, e := Row(s, next, []api.Value{of(api.Int16, 7, "")})
	if !slices.Equal(l, []api.Value{of(api.Int16, 7, ""), of(api.Word, 0, "x")}) || e != api.OK {
		t.Error(l, e)
	}
	for _, c := range []struct {
		a api.Alter
		e api.Errno
	}{{drop("a"), api.ErrRule}, {rename("a", "a"), api.ErrThere}, {widen("a", api.Bool), api.ErrKind}} {
		if next, e := Next(s, c.a); !isNone(next) || e != c.e {
			t.Errorf("Next(%v): %v %v, not %v", c.a, next, e, c.e)
		}
	}
	next, e = Next(s, widen("a", api.Int64))
	if e != api.OK || next.Fields[0].Kind != api.Int64 || next.Fields[0].Default != of(api.Int64, 5, "") {
		t.Error(next, e)
	}
}

func TestA1New(t *testing.T) {
	r := rand.New(rand.NewSource(1))
	for many := 1; many <= 12; many++ {
		l := anyFirst(r, many)
		l[0].ID, l[many-1].ID = math.MinInt, math.MaxInt
		s, e := New(l)
		if e != api.OK || s.Version != 1 || s.Next != many+1 || len(s.Fields) != many || !schema.Right(s) {
			t.Fatalf("New(%v): %v %v", l, s, e)
		}
		for i, f := range s.Fields {
			if want := (api.Field{ID: i + 1, Kind: l[i].Kind, Name: l[i].Name, Default: l[i].Default}); f != want {
				t.Errorf("%d of %d: %v, not %v", i, many, f, want)
			}
		}
	}
	// Fields of one number are as good as any.
	s, e := New([]api.Field{field(5, api.Bool, "z", 1), field(5, api.Int16, "a", 9)})
	if want := (api.Schema{Version: 1, Next: 3, Fields: []api.Field{field(1, api.Bool, "z", 1), field(2, api.Int16, "a", 9)}}); !same(s, want) || e != api.OK {
		t.Error(s, e)
	}
}

func TestA1NewOfWrong(t *testing.T) {
	good := field(1, api.Bool, "a", 0)
	cases := []struct {
		l []api.Field
		e api.Errno
	}{
		{nil, api.ErrMany},
		{[]api.Field{}, api.ErrMany},
		{wide(13).Fields, api.ErrMany},
		{wide(14).Fields, api.ErrMany},
		{make([]api.Field, 13), api.ErrMany},
		{make([]api.Field, 1<<16), api.ErrMany},
		{make([]api.Field, 12), api.ErrArg},
		{[]api.Field{{}}, api.ErrArg},
		{[]api.Field{good, good}, api.ErrArg},
		{[]api.Field{good, field(2, api.Text, "a", 0)}, api.ErrArg},
		{append(wide(11).Fields, field(12, api.Bool, "f0", 0)), api.ErrArg},
		{[]api.Field{good, field(2, 0, "b", 0)}, api.ErrArg},
		{[]api.Field{good, field(2, 7, "b", 0)}, api.ErrArg},
		{[]api.Field{good, field(2, api.Bool, "b", 2)}, api.ErrArg},
		{[]api.Field{good, {ID: 2, Kind: api.Int16, Name: "b", Default: of(api.Bool, 1, "")}}, api.ErrArg},
		{[]api.Field{{ID: 1, Kind: api.Word, Name: "b", Default: of(api.Word, 0, x(33))}}, api.ErrArg},
	}
	for _, name := range notNames() {
		cases = append(cases, struct {
			l []api.Field
			e api.Errno
		}{[]api.Field{good, field(2, api.Bool, name, 0)}, api.ErrArg})
	}
	for i, c := range cases {
		if s, e := New(c.l); !isNone(s) || e != c.e {
			t.Errorf("%d: %v %v, not %v", i, s, e, c.e)
		}
	}
}

func TestA3Next(t *testing.T) {
	s := three()
	a, b, c := s.Fields[0], s.Fields[1], s.Fields[2]
	cases := []struct {
		a    api.Alter
		next int
		want []api.Field
	}{
		{add("d", of(api.Text, 0, "z")), 11, []api.Field{a, b, c, {ID: 10, Kind: api.Text, Name: "d", Default: of(api.Text, 0, "z")}}},
		{add(x(24), of(api.Int64, math.MinInt, "")), 11, []api.Field{a, b, c, field(10, api.Int64, x(24), math.MinInt)}},
		{drop("a"), 10, []api.Field{b, c}},
		{drop("b"), 10, []api.Field{a, c}},
		{drop("c"), 10, []api.Field{a, b}},
		{rename("a", "z_9"), 10, []api.Field{field(9, api.Bool, "z_9", 1), b, c}},
		{rename("b", "bb"), 10, []api.Field{a, {ID: 3, Kind: api.Word, Name: "bb", Default: b.Default}, c}},
		{rename("c", x(24)), 10, []api.Field{a, b, field(4, api.Int32, x(24), -70000)}},
		{widen("a", api.Int16), 10, []api.Field{field(9, api.Int16, "a", 1), b, c}},
		{widen("a", api.Int64), 10, []api.Field{field(9, api.Int64, "a", 1), b, c}},
		{widen("b", api.Text), 10, []api.Field{a, {ID: 3, Kind: api.Text, Name: "b", Default: of(api.Text, 0, "w")}, c}},
		{widen("c", api.Int64), 10, []api.Field{a, b, field(4, api.Int64, "c", -70000)}},
	}
	for _, c := range cases {
		next, e := Next(s, c.a)
		if want := (api.Schema{Version: 8, Next: c.next, Fields: c.want}); !same(next, want) || e != api.OK {
			t.Errorf("Next(%v): %v %v, not %v", c.a, next, e, want)
		}
	}
	if !same(s, three()) {
		t.Error(s)
	}
}

// A number is never given a second time, also where its field is gone.
func TestA3NumbersAreNew(t *testing.T) {
	s := example()
	for i := range 998 {
		next, e := Next(s, add("b", of(api.Bool, 1, "")))
		if f, ok := schema.Find(next, "b"); e != api.OK || !ok || f.ID != i+2 || next.Next != i+3 {
			t.Fatal(i, next, e)
		}
		if s, e = Next(next, drop("b")); e != api.OK || s.Next != i+3 || s.Version != 2*i+3 {
			t.Fatal(i, s, e)
		}
	}
	if next, e := Next(s, add("b", of(api.Bool, 1, ""))); !isNone(next) || e != api.ErrMany {
		t.Error(next, e)
	}
	if next, e := Next(s, rename("a", "b")); next.Next != 1000 || e != api.OK {
		t.Error(next, e)
	}
}

func TestA3Words(t *testing.T) {
	r := rand.New(rand.NewSource(3))
	counts := map[api.Errno]int{}
	ops := map[int]int{}
	for range 40000 {
		s, a := anySchema(r), anyAlter(r)
		kept := s
		kept.Fields = slices.Clone(s.Fields)
		want := checkedByWords(s, a)
		counts[want]++
		if e := Check(s, a); e != want {
			t.Fatalf("Check(%v, %v): %v, not %v", s, a, e, want)
		}
		next, e := Next(s, a)
		if e != want || e != api.OK && !isNone(next) || e == api.OK && !same(next, nextByWords(s, a)) {
			t.Fatalf("Next(%v, %v): %v %v, not %v", s, a, next, e, want)
		}
		if e == api.OK {
			ops[a.Op]++
		}
		if !same(s, kept) {
			t.Fatal("changed:", s, kept)
		}
	}
	for _, e := range []api.Errno{api.OK, api.ErrArg, api.ErrName, api.ErrThere, api.ErrNone, api.ErrMany, api.ErrKind, api.ErrRule} {
		if counts[e] < 200 {
			t.Error("too few of", e, counts)
		}
	}
	for op := 1; op <= 4; op++ {
		if ops[op] < 200 {
			t.Error("too few of", op, ops)
		}
	}
}

func TestA4Row(t *testing.T) {
	from := three()
	row := []api.Value{of(api.Bool, 0, ""), of(api.Word, 0, "q"), of(api.Int32, math.MinInt32, "")}
	// Names mean nothing, numbers all.
	to := api.Schema{Version: 1, Next: 6, Fields: []api.Field{
		field(4, api.Int64, "a", 1), field(5, api.Int32, "b", -9), {ID: 3, Kind: api.Text, Name: "c", Default: of(api.Text, 0, "no")}, field(1, api.Text, "d", 0),
	}}
	cases := []struct {
		to   api.Schema
		want []api.Value
	}{
		{from, row},
		{to, []api.Value{of(api.Int64, math.MinInt32, ""), of(api.Int32, -9, ""), of(api.Text, 0, "q"), of(api.Text, 0, "")}},
		{api.Schema{Version: 1000000, Next: 10, Fields: []api.Field{field(9, api.Int64, "b", 77)}}, []api.Value{of(api.Int64, 0, "")}},
		{api.Schema{Version: 7, Next: 10, Fields: []api.Field{field(8, api.Int64, "a", 77)}}, []api.Value{of(api.Int64, 77, "")}},
	}
	for _, c := range cases {
		if l, e := Row(from, c.to, row); !slices.Equal(l, c.want) || e != api.OK {
			t.Errorf("Row to %v: %v %v, not %v", c.to, l, e, c.want)
		}
	}
	// Twelve new fields in the place of twelve.
	other := wide(12)
	for i := range other.Fields {
		other.Fields[i].ID, other.Fields[i].Kind, other.Fields[i].Default = 20+i, api.Int16, of(api.Int16, i, "")
	}
	other.Next = 1000
	r := rand.New(rand.NewSource(4))
	l, e := Row(wide(12), other, anyRow(r, wide(12)))
	if e != api.OK || len(l) != 12 {
		t.Fatal(l, e)
	}
	for i, v := range l {
		if v != of(api.Int16, i, "") {
			t.Error(i, v)
		}
	}
}

// Every kind to every kind, each of a first and of a last field.
func TestA4Kinds(t *testing.T) {
	r := rand.New(rand.NewSource(5))
	for a := 1; a <= 6; a++ {
		for b := 1; b <= 6; b++ {
			for _, first := range []bool{false, true} {
				from := api.Schema{Version: 3, Next: 9, Fields: []api.Field{field(8, api.Bool, "x", 0), field(2, a, "y", 0)}}
				to := api.Schema{Version: 2, Next: 9, Fields: []api.Field{field(8, api.Bool, "x", 0), field(2, b, "z", 0)}}
				if first {
					slices.Reverse(to.Fields)
				}
				row := anyRow(r, from)
				l, e := Row(from, to, row)
				want, f := rowByWords(from, to, row)
				if isBelow(a, b) != (e == api.OK) || e != f || !slices.Equal(l, want) {
					t.Errorf("%d to %d: %v %v, not %v %v", a, b, l, e, want, f)
				}
			}
		}
	}
}

func TestA4RowOfWrong(t *testing.T) {
	s, one := three(), of(api.Int32, 1, "")
	row := []api.Value{of(api.Bool, 0, ""), of(api.Word, 0, "q"), one}
	narrow := changed(func(s *api.Schema) { s.Fields[2] = field(4, api.Int16, "c", 0) })
	cases := []struct {
		to api.Schema
		l  []api.Value
		e  api.Errno
	}{
		{s, nil, api.ErrRow},
		{s, row[:2], api.ErrRow},
		{s, append(slices.Clone(row), one), api.ErrRow},
		{s, make([]api.Value, 1<<16), api.ErrRow},
		{s, []api.Value{row[0], row[1], {}}, api.ErrRow},
		{s, []api.Value{of(api.Bool, 2, ""), row[1], row[2]}, api.ErrRow},
		{s, []api.Value{row[0], of(api.Word, 0, x(33)), row[2]}, api.ErrRow},
		{s, []api.Value{row[0], row[1], of(api.Int64, 1, "")}, api.ErrKind},
		{s, []api.Value{row[0], row[1], of(api.Int16, 1, "")}, api.ErrKind},
		// The first of two faults counts.
		{s, []api.Value{one, {}, row[2]}, api.ErrKind},
		{s, []api.Value{row[0], {}, row[0]}, api.ErrRow},
		// A row that does not fit counts ahead of a value that can't be widened, also one of a field that is gone.
		{narrow, []api.Value{row[0], row[1], row[0]}, api.ErrKind},
		{narrow, row[:2], api.ErrRow},
		{api.Schema{Version: 1, Next: 9, Fields: []api.Field{field(8, api.Bool, "a", 0)}}, row[:2], api.ErrRow},
		{api.Schema{Version: 1, Next: 9, Fields: []api.Field{field(8, api.Bool, "a", 0)}}, []api.Value{row[0], row[1], row[1]}, api.ErrKind},
		// One fits a narrower kind as well, but is not widened to it.
		{narrow, row, api.ErrRule},
		{changed(func(s *api.Schema) { s.Fields[0] = field(9, api.Text, "a", 0) }), row, api.ErrRule},
		{changed(func(s *api.Schema) { s.Fields[1] = field(3, api.Int64, "b", 0) }), row, api.ErrRule},
	}
	for i, c := range cases {
		if l, e := Row(s, c.to, c.l); len(l) != 0 || e != c.e {
			t.Errorf("%d: %v %v, not %v", i, l, e, c.e)
		}
	}
	for i, bad := range wrong() {
		if l, e := Row(bad, s, row); len(l) != 0 || e != api.ErrArg {
			t.Errorf("from %d: %v %v", i, l, e)
		}
		if l, e := Row(s, bad, row); len(l) != 0 || e != api.ErrArg {
			t.Errorf("to %d: %v %v", i, l, e)
		}
		if l, e := Row(s, bad, nil); len(l) != 0 || e != api.ErrArg {
			t.Errorf("to %d of nothing: %v %v", i, l, e)
		}
	}
}

func TestA4Words(t *testing.T) {
	r := rand.New(rand.NewSource(6))
	good, rule := 0, 0
	for range 20000 {
		from, to := anySchema(r), anySchema(r)
		if r.Intn(2) == 0 {
			// Of so few fields many can be widened.
			to.Fields = to.Fields[:min(len(to.Fields), 1+r.Intn(2))]
		}
		if schema.Right(to) {
			to.Fields[0].ID = from.Fields[r.Intn(len(from.Fields))].ID
		}
		if !schema.Right(from) || !schema.Right(to) {
			continue
		}
		row := anyRow(r, from)
		l, e := Row(from, to, row)
		want, f := rowByWords(from, to, row)
		if e != f || !slices.Equal(l, want) {
			t.Fatalf("Row(%v, %v, %v): %v %v, not %v %v", from, to, row, l, e, want, f)
		}
		if e == api.OK {
			good++
		} else {
			rule++
		}
	}
	if good < 1000 || rule < 1000 {
		t.Error("too few:", good, rule)
	}
}

// follows tells whether a row is what is to be seen of another one behind an alteration.
func follows(s api.Schema, a api.Alter, was, is []api.Value) bool {
	i := slices.IndexFunc(s.Fields, func(f api.Field) bool { return f.Name == a.Name })
	want := slices.Clone(was)
	switch a.Op {
	case api.AddField:
		want = append(want, a.Default)
	case api.DropField:
		want = slices.Delete(want, i, i+1)
	case api.WidenField:
		want[i].Kind = a.Kind
	}
	return slices.Equal(is, want)
}

func TestA5RowsFollow(t *testing.T) {
	r := rand.New(rand.NewSource(7))
	done := map[int]int{}
	for range 300 {
		s, e := New(anyFirst(r, 1+r.Intn(12)))
		if e != api.OK {
			t.Fatal(e)
		}
		first, row := s, anyRow(r, s)
		kept := row
		for range 60 {
			a := anyAlter(r)
			next, e := Next(s, a)
			if e != api.OK {
				continue
			}
			done[a.Op]++
			if !schema.Right(next) {
				t.Fatalf("Next(%v, %v): %v is not valid", s, a, next)
			}
			l, e := Row(s, next, row)
			if e != api.OK || schema.Fits(next, l) != api.OK || !follows(s, a, row, l) {
				t.Fatalf("Row(%v, %v, %v): %v %v", s, next, row, l, e)
			}
			// A default that is widened later on is as good as one that was put.
			straight, e := Row(first, next, kept)
			if e != api.OK || !slices.Equal(straight, l) {
				t.Fatalf("Row(%v, %v, %v): %v %v, not %v", first, next, kept, straight, e, l)
			}
			s, row = next, l
		}
	}
	for op := 1; op <= 4; op++ {
		if done[op] < 200 {
			t.Error("too few of", op, done)
		}
	}
}

// A default is widened as a value is.
func TestA5Defaults(t *testing.T) {
	for a := 1; a <= 6; a++ {
		for _, b := range lattice.Above(a) {
			if a == b {
				continue
			}
			s := api.Schema{Version: 1, Next: 2, Fields: []api.Field{field(1, a, "a", 0)}}
			next, e := Next(s, widen("a", b))
			l, f := Row(s, next, []api.Value{s.Fields[0].Default})
			if e != api.OK || f != api.OK || l[0] != next.Fields[0].Default || !schema.Right(next) {
				t.Error(a, b, next, e, l, f)
			}
		}
	}
}

// full is a list that has room behind it, and what stands there.
func full[E any](l []E, behind E) []E {
	l = slices.Clone(l)
	n := len(l)
	l = append(l, behind, behind, behind)
	return l[:n]
}

// What calls are given is not changed, nor is what lies beyond it, and what they answer is their own.
func TestP3Apart(t *testing.T) {
	mark := field(77, api.Text, "mark", 0)
	for _, a := range []api.Alter{add("d", of(api.Bool, 1, "")), drop("a"), drop("c"), rename("a", "z"), widen("c", api.Int64)} {
		s := three()
		s.Fields = full(s.Fields, mark)
		next, e := Next(s, a)
		if e != api.OK {
			t.Fatal(a, e)
		}
		again, _ := Next(s, a)
		clear(next.Fields[:cap(next.Fields)])
		if !same(again, nextByWords(three(), a)) || !same(s, three()) || s.Fields[:4][3] != mark {
			t.Error(a, again, s)
		}
		clear(s.Fields)
		if !same(again, nextByWords(three(), a)) {
			t.Error(a, again)
		}
	}
	fields := full(three().Fields, mark)
	s, e := New(fields)
	if e != api.OK || !slices.Equal(fields, three().Fields) || fields[:4][3] != mark {
		t.Error(fields, e)
	}
	clear(fields)
	if s.Fields[0].Name != "a" || s.Fields[2].Default.N != -70000 {
		t.Error(s)
	}
	other, _ := New(s.Fields)
	clear(other.Fields[:cap(other.Fields)])
	if s.Fields[0].Name != "a" {
		t.Error(s)
	}
}

func TestP3RowApart(t *testing.T) {
	s := three()
	want := []api.Value{of(api.Bool, 0, ""), of(api.Word, 0, "q"), of(api.Int32, 1, "")}
	row := full(want, of(9, 9, "beyond"))
	l, e := Row(s, s, row)
	again, _ := Row(s, s, row)
	clear(l[:cap(l)])
	if e != api.OK || !slices.Equal(row, want) || row[:4][3].N != 9 || !slices.Equal(again, want) || !same(s, three()) {
		t.Error(row, again, s, e)
	}
	clear(row)
	if !slices.Equal(again, want) {
		t.Error(again)
	}
}

// What lies beyond the length of a list is not read.
func TestP3Beyond(t *testing.T) {
	s := three()
	s.Fields = s.Fields[:2]
	if e := Check(s, drop("c")); e != api.ErrNone {
		t.Error(e)
	}
	if next, e := Next(s, add("c", of(api.Bool, 0, ""))); e != api.OK || next.Fields[2].ID != 10 {
		t.Error(next, e)
	}
	if l, e := Row(s, three(), []api.Value{of(api.Bool, 0, ""), of(api.Word, 0, "q")}); e != api.OK || l[2].N != -70000 {
		t.Error(l, e)
	}
	many := wide(13)
	if next, e := New(many.Fields[:12]); e != api.OK || len(next.Fields) != 12 {
		t.Error(next, e)
	}
}
