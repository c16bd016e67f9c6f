package schema

import (
	"math"
	"math/rand"
	"slices"
	"strconv"
	"strings"
	"testing"

	"moult/api"
	"moult/value"
)

func of(kind, n int, s string) api.Value { return api.Value{Kind: kind, N: n, S: s} }

func x(n int) string { return strings.Repeat("x", n) }

// field is one with a default that has this N.
func field(id, kind int, name string, n int) api.Field {
	return api.Field{ID: id, Kind: kind, Name: name, Default: of(kind, n, "")}
}

// example is the chapter's.
func example() api.Schema {
	return api.Schema{Version: 1, Next: 3, Fields: []api.Field{field(1, api.Int16, "a", 5), field(2, api.Word, "b", 0)}}
}

// wide has so many fields, of all kinds in turn, and the least Next for them.
func wide(many int) api.Schema {
	s := api.Schema{Version: 1, Next: many + 1}
	for i := range many {
		s.Fields = append(s.Fields, field(i+1, 1+i%6, "f"+strconv.Itoa(i), 0))
	}
	return s
}

// long has the longest fields that there are.
func long() api.Schema {
	s := api.Schema{Version: 1000000, Next: 1000}
	for i := range 12 {
		name := strings.Repeat("_", 22) + strconv.Itoa(10+i)
		f := api.Field{ID: 999 - i, Kind: api.Text, Name: "z" + name[1:], Default: of(api.Text, 0, strings.Repeat("\x00", 1000))}
		s.Fields = append(s.Fields, f)
	}
	return s
}

func same(a, b api.Schema) bool {
	return a.Version == b.Version && a.Next == b.Next && slices.Equal(a.Fields, b.Fields)
}

func isNone(s api.Schema) bool { return same(s, api.Schema{}) }

// changed is the example, but for what is made of it.
func changed(change func(s *api.Schema)) api.Schema {
	s := example()
	change(&s)
	return s
}

// valid are schemas up to each border of the chapter's words.
func valid() map[string]api.Schema {
	return map[string]api.Schema{
		"the example":         example(),
		"the greatest one":    long(),
		"one field":           wide(1),
		"eleven fields":       wide(11),
		"twelve fields":       wide(12),
		"the last version":    changed(func(s *api.Schema) { s.Version = 1000000 }),
		"the last next":       changed(func(s *api.Schema) { s.Next = 1000 }),
		"the last number":     changed(func(s *api.Schema) { s.Next, s.Fields[0].ID = 1000, 999 }),
		"numbers that fall":   changed(func(s *api.Schema) { s.Fields[0].ID, s.Fields[1].ID = 2, 1 }),
		"a name of one":       changed(func(s *api.Schema) { s.Fields[0].Name = "z" }),
		"a name of most":      changed(func(s *api.Schema) { s.Fields[0].Name = x(24) }),
		"names that begin so": changed(func(s *api.Schema) { s.Fields[0].Name = "bb" }),
		"the least default":   changed(func(s *api.Schema) { s.Fields[0].Default.N = -32768 }),
		"the most default":    changed(func(s *api.Schema) { s.Fields[0].Default.N = 32767 }),
		"a default of zeros":  changed(func(s *api.Schema) { s.Fields[1].Default.S = strings.Repeat("\x00", 32) }),
		"a default of most": changed(func(s *api.Schema) {
			s.Fields[1] = api.Field{ID: 1, Kind: api.Text, Name: "b", Default: of(api.Text, 0, x(1000))}
			s.Fields[0].ID = 2
		}),
		"a great default": changed(func(s *api.Schema) { s.Fields[0] = field(1, api.Int64, "a", math.MinInt) }),
		"a bool":          changed(func(s *api.Schema) { s.Fields[0] = field(1, api.Bool, "a", 1) }),
	}
}

// wrong are schemas each of which lacks one thing to be valid.
func wrong() map[string]api.Schema {
	m := map[string]api.Schema{
		"the zero one":           {},
		"no fields":              {Version: 1, Next: 1},
		"an empty list":          changed(func(s *api.Schema) { s.Fields = []api.Field{} }),
		"thirteen fields":        wide(13),
		"many fields":            wide(900),
		"two of a number":        changed(func(s *api.Schema) { s.Fields[1].ID = 1 }),
		"two of a name":          changed(func(s *api.Schema) { s.Fields[1].Name = "a" }),
		"the same twice":         changed(func(s *api.Schema) { s.Fields[1] = s.Fields[0] }),
		"the last like first":    changed(func(s *api.Schema) { *s = wide(12); s.Fields[11].Name = "f0" }),
		"the last ones alike":    changed(func(s *api.Schema) { *s = wide(12); s.Fields[11].ID = 11 }),
		"another kind":           changed(func(s *api.Schema) { s.Fields[0].Kind = api.Int32 }),
		"another default":        changed(func(s *api.Schema) { s.Fields[1].Default.Kind = api.Text }),
		"a great default":        changed(func(s *api.Schema) { s.Fields[0].Default.N = 32768 }),
		"a default with text":    changed(func(s *api.Schema) { s.Fields[0].Default.S = "x" }),
		"a default with number":  changed(func(s *api.Schema) { s.Fields[1].Default.N = 1 }),
		"a long default":         changed(func(s *api.Schema) { s.Fields[1].Default.S = x(33) }),
		"no default":             changed(func(s *api.Schema) { s.Fields[0].Default = api.Value{} }),
		"a field of nothing":     changed(func(s *api.Schema) { s.Fields[1] = api.Field{} }),
		"a field, the last of 3": changed(func(s *api.Schema) { s.Next, s.Fields = 9, append(s.Fields, field(9, api.Bool, "c", 0)) }),
	}
	for _, n := range []int{math.MinInt, -1, 0, 1000001, 1 << 32, 1<<32 + 1, math.MaxInt} {
		m["version "+strconv.Itoa(n)] = changed(func(s *api.Schema) { s.Version = n })
	}
	for _, n := range []int{math.MinInt, -1, 0, 1, 2, 1001, 1<<32 + 3, math.MaxInt} {
		m["next "+strconv.Itoa(n)] = changed(func(s *api.Schema) { s.Next = n })
	}
	for _, n := range []int{math.MinInt, -1, 0, 3, 4, 1<<32 + 1, math.MaxInt} {
		m["number "+strconv.Itoa(n)] = changed(func(s *api.Schema) { s.Fields[0].ID = n })
	}
	for _, n := range []int{math.MinInt, -1, 0, 7, 256, 257, 1<<32 + 2, math.MaxInt} {
		m["kind "+strconv.Itoa(n)] = changed(func(s *api.Schema) { s.Fields[0] = field(1, n, "a", 0) })
	}
	for _, n := range []string{"", "A", "_", "1", "1a", "_a", "a ", " a", "a-", "é", "a\x00", "a\xff", "aA", x(25), x(1 << 12)} {
		m["name "+strconv.Quote(n)] = changed(func(s *api.Schema) { s.Fields[1].Name = n })
	}
	return m
}

func TestDocument(t *testing.T) {
	s := example()
	rows := []struct {
		l []api.Value
		e api.Errno
	}{
		{[]api.Value{of(api.Int16, 1, ""), of(api.Word, 0, "x")}, api.OK},
		{[]api.Value{of(api.Int32, 1, ""), of(api.Word, 0, "x")}, api.ErrKind},
		{[]api.Value{of(api.Int16, 1, "")}, api.ErrRow},
	}
	for _, c := range rows {
		if e := Fits(s, c.l); e != c.e {
			t.Errorf("Fits(%v): %v, not %v", c.l, e, c.e)
		}
	}
	data, e := Put(7, api.Row{Version: 1, Values: []api.Value{of(api.Bool, 1, "")}})
	if data != "\x07\x01\x01\x01\x01" || e != api.OK {
		t.Errorf("Put: %q %v", data, e)
	}
	if table, r, e := Take(data); table != 7 || r.Version != 1 || !slices.Equal(r.Values, []api.Value{of(api.Bool, 1, "")}) || e != api.OK {
		t.Error(table, r, e)
	}
	if table, r, e := Take(""); table != 0 || r.Version != 0 || len(r.Values) != 0 || e != api.ErrForm {
		t.Error(table, r, e)
	}
}

// isName is what the chapter's words say.
func isName(s string) bool {
	return 1 <= len(s) && len(s) <= 24 && strings.Trim(s, "abcdefghijklmnopqrstuvwxyz0123456789_") == "" && s[0] >= 'a'
}

func TestH1Name(t *testing.T) {
	names := []string{"", "a", "z", "a0", "a9", "z_", "a_b", x(23), x(24), x(25), x(1 << 16), "a\n", "ab c", "a`", "a{", "a/", "a:", "a\x7f", "аb"}
	for c := range 256 {
		b := string([]byte{byte(c)})
		names = append(names, b, b+"a", "a"+b, "a"+b+"a", x(23)+b)
	}
	for _, s := range names {
		if Name(s) != isName(s) {
			t.Errorf("Name(%.40q): %v", s, Name(s))
		}
	}
	for _, s := range []string{"a", "b_2", x(24)} {
		if !Name(s) {
			t.Error(s)
		}
	}
	for _, s := range []string{"", "2", "_", "A", x(25)} {
		if Name(s) {
			t.Error(s)
		}
	}
}

func TestH1Right(t *testing.T) {
	for name, s := range valid() {
		if !Right(s) {
			t.Errorf("%s: not valid", name)
		}
	}
	for name, s := range wrong() {
		if Right(s) {
			t.Errorf("%s: valid", name)
		}
	}
}

func TestH1Find(t *testing.T) {
	// Neither a valid schema nor fields that differ are asked for.
	twice := api.Schema{Fields: []api.Field{field(3, api.Bool, "b", 1), field(-1, 9, "a", 1), field(3, api.Bool, "a", 0), {}, field(math.MaxInt, api.Bool, "b", 0)}}
	all := append([]api.Schema{{}, twice, wide(12), wide(40)}, example())
	for _, s := range all {
		for _, name := range []string{"", "a", "b", "c", "f0", "f11", "f39", "f1", "A", "f"} {
			f, ok := Find(s, name)
			i := slices.IndexFunc(s.Fields, func(f api.Field) bool { return f.Name == name })
			if ok != (i >= 0) || ok && f != s.Fields[i] || !ok && f != (api.Field{}) {
				t.Errorf("Find(%v, %q): %v %v", s, name, f, ok)
			}
		}
		for _, id := range []int{math.MinInt, -1, 0, 1, 2, 3, 12, 13, 40, 41, math.MaxInt} {
			f, ok := ByID(s, id)
			i := slices.IndexFunc(s.Fields, func(f api.Field) bool { return f.ID == id })
			if ok != (i >= 0) || ok && f != s.Fields[i] || !ok && f != (api.Field{}) {
				t.Errorf("ByID(%v, %d): %v %v", s, id, f, ok)
			}
		}
	}
	if f, ok := Find(twice, "b"); f != twice.Fields[0] || !ok {
		t.Error(f, ok)
	}
	if f, ok := ByID(twice, 3); f != twice.Fields[0] || !ok {
		t.Error(f, ok)
	}
	if f, ok := Find(twice, ""); f != (api.Field{}) || !ok {
		t.Error(f, ok)
	}
}

func TestH1Fits(t *testing.T) {
	small, word := of(api.Int16, 7, ""), of(api.Word, 0, "x")
	cases := []struct {
		l []api.Value
		e api.Errno
	}{
		{nil, api.ErrRow},
		{[]api.Value{}, api.ErrRow},
		{[]api.Value{small}, api.ErrRow},
		{[]api.Value{small, word, word}, api.ErrRow},
		{[]api.Value{of(api.Int32, 7, "")}, api.ErrRow},
		{[]api.Value{small, word}, api.OK},
		{[]api.Value{of(api.Int16, -32768, ""), of(api.Word, 0, x(32))}, api.OK},
		{[]api.Value{of(api.Int16, 32768, ""), word}, api.ErrRow},
		{[]api.Value{small, of(api.Word, 0, x(33))}, api.ErrRow},
		{[]api.Value{small, of(api.Word, 1, "x")}, api.ErrRow},
		{[]api.Value{small, of(api.Text, 0, "x")}, api.ErrKind},
		{[]api.Value{of(api.Bool, 1, ""), word}, api.ErrKind},
		{[]api.Value{word, small}, api.ErrKind},
		{[]api.Value{{}, word}, api.ErrRow},
		{[]api.Value{small, {}}, api.ErrRow},
		// The first of two faults counts, and of one value that it isn't valid.
		{[]api.Value{of(api.Int32, 7, ""), {}}, api.ErrKind},
		{[]api.Value{of(api.Int16, 70000, ""), of(api.Text, 0, "x")}, api.ErrRow},
		{[]api.Value{of(api.Bool, 2, ""), word}, api.ErrRow},
		{[]api.Value{of(9, 0, ""), word}, api.ErrRow},
	}
	for _, c := range cases {
		if e := Fits(example(), c.l); e != c.e {
			t.Errorf("Fits(%v): %v, not %v", c.l, e, c.e)
		}
	}
}

// A schema need not be valid for Fits.
func TestH1FitsOfWrong(t *testing.T) {
	odd := api.Schema{Fields: []api.Field{field(0, 9, "", 0), field(0, 0, "", 0), field(0, api.Bool, "", 7)}}
	yes := of(api.Bool, 1, "")
	cases := []struct {
		s api.Schema
		l []api.Value
		e api.Errno
	}{
		{api.Schema{}, nil, api.OK},
		{api.Schema{}, []api.Value{{}}, api.ErrRow},
		{odd, []api.Value{yes, yes, yes}, api.ErrKind},
		{odd, []api.Value{of(9, 0, ""), {}, yes}, api.ErrRow},
		{api.Schema{Fields: odd.Fields[1:]}, []api.Value{{}, yes}, api.ErrRow},
		{api.Schema{Fields: odd.Fields[2:]}, []api.Value{yes}, api.OK},
		{api.Schema{Fields: make([]api.Field, 1<<12)}, make([]api.Value, 1<<12), api.ErrRow},
		{api.Schema{Fields: make([]api.Field, 1<<12)}, nil, api.ErrRow},
	}
	for i, c := range cases {
		if e := Fits(c.s, c.l); e != c.e {
			t.Errorf("%d: %v, not %v", i, e, c.e)
		}
	}
	fits := wide(40)
	var row []api.Value
	for _, f := range fits.Fields {
		row = append(row, f.Default)
	}
	if e := Fits(fits, row); e != api.OK {
		t.Error(e)
	}
	row[39].Kind = 1
	if e := Fits(fits, row); e != api.ErrKind {
		t.Error(e)
	}
}

// anyValue is valid at most times.
func anyValue(r *rand.Rand) api.Value {
	v := of(1+r.Intn(6), 0, "")
	switch v.Kind {
	case api.Bool:
		v.N = r.Intn(2)
	case api.Int16, api.Int32, api.Int64:
		v.N = r.Intn(65536) - 32768
	default:
		v.S = strings.Repeat(string([]byte{byte(r.Intn(3))}), r.Intn(4))
	}
	if r.Intn(20) == 0 {
		v.Kind, v.N = r.Intn(8), r.Intn(3)
	}
	return v
}

func anyValues(r *rand.Rand, many int) []api.Value {
	var l []api.Value
	for range many {
		l = append(l, anyValue(r))
	}
	return l
}

// anySchema is valid at most times.
func anySchema(r *rand.Rand) api.Schema {
	s := api.Schema{Version: 1 + r.Intn(1000000), Next: 1 + r.Intn(1000)}
	if r.Intn(9) == 0 {
		s.Version, s.Next = r.Intn(3)*500001, r.Intn(3)*501
	}
	for i := range r.Intn(14) {
		v := anyValue(r)
		f := api.Field{ID: 1 + (i*7+r.Intn(7))%40, Kind: v.Kind, Name: "n" + strconv.Itoa(r.Intn(200)), Default: v}
		if r.Intn(60) == 0 {
			f.Name, f.Kind = "0"+f.Name, r.Intn(8)
		}
		s.Fields = append(s.Fields, f)
	}
	return s
}

// isRightByWords is what the chapter's words say, one after the other.
func isRightByWords(s api.Schema) bool {
	ids, names := map[int]int{}, map[string]int{}
	good := 0
	for _, f := range s.Fields {
		ids[f.ID]++
		names[f.Name]++
		if f.ID >= 1 && f.ID < s.Next && isName(f.Name) && f.Kind >= 1 && f.Kind <= 6 && value.Right(f.Default) && f.Default.Kind == f.Kind {
			good++
		}
	}
	n := len(s.Fields)
	return s.Version >= 1 && s.Version <= 1000000 && s.Next >= 1 && s.Next <= 1000 && n >= 1 && n <= 12 && good == n && len(ids) == n && len(names) == n
}

func TestH1Words(t *testing.T) {
	r := rand.New(rand.NewSource(14))
	count := 0
	for range 4000 {
		s := anySchema(r)
		if Right(s) {
			count++
		}
		if Right(s) != isRightByWords(s) {
			t.Fatalf("Right(%v): %v", s, Right(s))
		}
		l := anyValues(r, len(s.Fields)-r.Intn(20)/19)
		for i, f := range s.Fields {
			if i < len(l) && r.Intn(9) > 0 {
				l[i] = f.Default
			}
		}
		if e := Fits(s, l); e != fitsByWords(s, l) {
			t.Fatalf("Fits(%v, %v): %v", s, l, e)
		}
	}
	if count < 400 || count > 3600 {
		t.Error("too few or too many of them are valid:", count)
	}
}

func fitsByWords(s api.Schema, l []api.Value) api.Errno {
	if len(s.Fields) != len(l) {
		return api.ErrRow
	}
	i := slices.IndexFunc(l, func(v api.Value) bool { return !value.Right(v) })
	for k, v := range l {
		if k == i {
			return api.ErrRow
		}
		if v.Kind != s.Fields[k].Kind {
			return api.ErrKind
		}
	}
	return api.OK
}
