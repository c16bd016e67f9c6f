package schema

import (
	"math"
	"math/rand"
	"slices"
	"strings"
	"testing"

	"moult/api"
	"moult/key"
	"moult/value"
	"moult/varint"
)

// put are numbers as the chapter's words say that they are written.
func put(l ...int) string {
	s := ""
	for _, n := range l {
		s += varint.Put(uint64(n))
	}
	return s
}

// encodedValue is a value's encoding; of one that isn't valid, some bytes like it.
func encodedValue(v api.Value) string {
	if s, e := key.Put(v); e == api.OK {
		return s
	}
	if v.Kind < api.Word {
		return string([]byte{byte(v.Kind), byte(v.N)}) + v.S + "\x00\x00"
	}
	// A text's N, if it has one, makes an end that is none.
	return string([]byte{byte(v.Kind)}) + v.S + string([]byte{0, byte(v.N)})
}

// encodedRow and encodedSchema are what the chapter's words say, of what is valid or not.
func encodedRow(table int, r api.Row) string {
	s := put(table, r.Version, len(r.Values))
	for _, v := range r.Values {
		s += encodedValue(v)
	}
	return s
}

func encodedSchema(s api.Schema) string {
	text := put(s.Version, s.Next, len(s.Fields))
	for _, f := range s.Fields {
		text += put(f.ID, f.Kind, len(f.Name)) + f.Name + encodedValue(f.Default)
	}
	return text
}

func sameRow(a, b api.Row) bool { return a.Version == b.Version && slices.Equal(a.Values, b.Values) }

func row(version int, l ...api.Value) api.Row { return api.Row{Version: version, Values: l} }

// rows are such as can be put, up to each border of the chapter's words.
func rows() []api.Row {
	texts := slices.Repeat([]api.Value{of(api.Text, 0, strings.Repeat("\x00", 1000))}, 12)
	return []api.Row{
		{},
		row(1), row(240), row(241), row(1000000),
		{Version: 3, Values: []api.Value{}},
		row(1, of(api.Bool, 1, "")),
		row(2, of(api.Bool, 0, ""), of(api.Int16, -1, ""), of(api.Int32, 1, ""), of(api.Int64, math.MinInt, ""), of(api.Word, 0, "a\x00"), of(api.Text, 0, "é\xff")),
		row(1000000, texts...),
		row(5, texts[:11]...),
	}
}

func takeNone(t *testing.T, data string) {
	t.Helper()
	if table, r, e := Take(data); table != 0 || !sameRow(r, api.Row{}) || e != api.ErrForm {
		t.Errorf("Take(%.60q): %d %v %v", data, table, r, e)
	}
}

func unpackNone(t *testing.T, s string) {
	t.Helper()
	if x, rest, e := Unpack(s); !isNone(x) || rest != "" || e != api.ErrForm {
		t.Errorf("Unpack(%.60q): %v %.40q %v", s, x, rest, e)
	}
}

func TestH2Put(t *testing.T) {
	for _, table := range []int{0, 1, 7, 240, 241, 2287, 2288, 67824, 1000000} {
		for _, r := range rows() {
			data, e := Put(table, r)
			if data != encodedRow(table, r) || e != api.OK {
				t.Fatalf("Put(%d, %v): %.60q %v", table, r, data, e)
			}
			if n, got, e := Take(data); n != table || !sameRow(got, r) || e != api.OK {
				t.Fatalf("Take(%.60q): %d %v %v", data, n, got, e)
			}
		}
	}
	if data, e := Put(300, row(2, of(api.Bool, 1, ""), of(api.Text, 0, "q"))); data != "\xf1\x3c\x02\x02\x01\x01\x06q\x00\x00" || e != api.OK {
		t.Errorf("%q %v", data, e)
	}
}

func TestH2PutOfWrong(t *testing.T) {
	yes := of(api.Bool, 1, "")
	type pair struct {
		table int
		r     api.Row
	}
	cases := []pair{
		{1, row(1, slices.Repeat([]api.Value{yes}, 13)...)},
		{1, row(1, slices.Repeat([]api.Value{yes}, 21)...)},
		{1, row(1, slices.Repeat([]api.Value{yes}, 1000)...)},
		{1, row(1, api.Value{})},
		{1, row(1, yes, of(api.Bool, 2, ""))},
		{1, row(1, of(api.Word, 0, x(33)), yes)},
		{1, row(1, slices.Concat(slices.Repeat([]api.Value{yes}, 11), []api.Value{of(7, 0, "")})...)},
	}
	for _, n := range []int{math.MinInt, -1, 1000001, 1 << 32, 1<<32 + 1, math.MaxInt} {
		cases = append(cases, pair{n, row(1, yes)}, pair{1, row(n, yes)}, pair{n, row(n)})
	}
	for _, c := range cases {
		if data, e := Put(c.table, c.r); data != "" || e != api.ErrArg {
			t.Errorf("Put(%d, %v): %.60q %v", c.table, c.r, data, e)
		}
	}
}

func TestH2TakeOfWrong(t *testing.T) {
	yes := "\x01\x01"
	for _, data := range []string{
		"", "\x01", "\x01\x01", "\x01\x01\x01", "\x01\x01\x01\x01", "\x01\x01\x01\x01\x02", "\x01\x01\x01\x00",
		"\x01\x01\x00" + yes, "\x01\x01\x01" + yes + yes, "\x01\x01\x02" + yes, "\x01\x01\x01" + yes + "\x00",
		put(1000001, 1, 0), put(1, 1000001, 0), put(-1, 1, 0), put(1, -1, 0), put(1, 1, -1), put(1, 1, math.MinInt), put(1<<32, 1, 0), put(1, 1<<32, 0),
		put(1, 1, 13) + strings.Repeat(yes, 13), put(1, 1, 20) + strings.Repeat(yes, 20), put(1, 1, 12) + strings.Repeat(yes, 13),
		put(1, 1, 12) + strings.Repeat(yes, 1000), put(1, 1, 1<<32) + yes, put(1, 1, 1<<32+1) + yes,
		"\xf1", "\x01\xf1", "\x01\x01\xf1", "\xff\xff",
		"\x01\xfa\x00\x00\x01\x00", "\x01\x01\xfa\x00\x00\x01" + yes,
		"\x01\x01\x01\x05" + x(33) + "\x00\x00", "\x01\x01\x01\x06" + x(1001) + "\x00\x00", "\x01\x01\x01\x05x\x00\x01\x00\x00", "\x01\x01\x01\x07\x00",
		strings.Repeat("\x01", 1<<16), strings.Repeat("\xff", 1<<16), strings.Repeat("\x00", 1<<16),
	} {
		takeNone(t, data)
	}
	for _, r := range rows() {
		data, _ := Put(300, r)
		for i := range min(len(data), 60) {
			takeNone(t, data[:i])
		}
		takeNone(t, data[:len(data)-1])
		takeNone(t, data+"\x00")
		takeNone(t, data+yes)
	}
}

func TestH3Pack(t *testing.T) {
	for name, s := range valid() {
		text, e := Pack(s)
		if text != encodedSchema(s) || e != api.OK {
			t.Errorf("%s: Pack: %.60q %v", name, text, e)
		}
		for _, behind := range []string{"", "z", "\x00", text, strings.Repeat("\xff", 100)} {
			if got, rest, e := Unpack(text + behind); !same(got, s) || rest != behind || e != api.OK {
				t.Errorf("%s: Unpack: %v %.60q %v", name, got, rest, e)
			}
		}
		for i := range min(len(text), 60) {
			unpackNone(t, text[:i])
		}
		unpackNone(t, text[:len(text)-1])
	}
	const want = "\x01\x03\x02\x01\x02\x01a\x02\x80\x05\x02\x05\x01b\x05\x00\x00"
	if text, e := Pack(example()); text != want || e != api.OK {
		t.Errorf("%q %v", text, e)
	}
}

func TestH3PackOfWrong(t *testing.T) {
	for name, s := range wrong() {
		if text, e := Pack(s); text != "" || e != api.ErrArg {
			t.Errorf("%s: Pack: %.60q %v", name, text, e)
		}
		unpackNone(t, encodedSchema(s))
		unpackNone(t, encodedSchema(s)+x(50))
	}
}

func TestH3UnpackOfWrong(t *testing.T) {
	one := put(1, api.Bool, 1) + "a\x01\x00"
	if _, rest, e := Unpack(put(1, 3, 1) + one + "r"); rest != "r" || e != api.OK {
		t.Fatal(rest, e)
	}
	for _, s := range []string{
		"", "\x01", "\x01\x03", "\x01\x03\x00", "\x01\x03\x01", "\xff", strings.Repeat("\x01", 1<<16), strings.Repeat("\xff", 1<<16), strings.Repeat("\x00", 1<<16),
		put(1, 3, 2) + one, put(1, 3, 2) + one + one, put(1, 3, 0) + one, put(1, 3, -1) + one, put(1, 3, math.MinInt) + one, put(1, 3, 1<<32+1) + one, put(1, 3, 1<<40) + one,
		put(1<<32+1, 3, 1) + one, put(1, 1<<32+3, 1) + one, put(-1, 3, 1) + one, put(1, -1, 1) + one,
		put(1, 3, 1, 1, api.Bool, 1<<32+1) + "a\x01\x00", put(1, 3, 1, 1, api.Bool, -1) + "a\x01\x00", put(1, 3, 1, 1, api.Bool, math.MaxInt) + "a\x01\x00",
		put(1, 3, 1, 1, api.Bool, math.MinInt) + "a\x01\x00", put(1, 3, 1, 1, api.Bool, 25) + x(25) + "\x01\x00", put(1, 3, 1, 1, api.Bool, 5) + "a\x01\x00",
		put(1, 3, 1, 1, api.Bool, 0) + "\x01\x00", put(1, 3, 1, 1<<32+1, api.Bool, 1) + "a\x01\x00", put(1, 3, 1, 1, 1<<32+1, 1) + "a\x01\x00",
		put(1, 3, 1, 1, 257, 1) + "a\x01\x00", put(1, 3, 1, -1, api.Bool, 1) + "a\x01\x00", put(1, 3, 1, 1, -1, 1) + "a\x01\x00",
		put(1, 3, 1, 1, api.Bool, 1) + "a\x01\x02", put(1, 3, 1, 1, api.Bool, 1) + "a\x02\x80\x00", put(1, 3, 1, 1, api.Bool, 1) + "a\x01", put(1, 3, 1, 1, api.Bool, 1) + "a",
		"\xfa\x00\x00\x01\x03\x01" + one, "\x01\xfa\x00\x00\x03\x01" + one, "\x01\x03\xfa\x00\x00\x01" + one,
		put(1, 99, 13) + strings.Repeat(one, 13), put(1, 99, 12) + strings.Repeat(one, 12), put(1, 99, 1000000) + strings.Repeat(one, 1000),
	} {
		unpackNone(t, s)
	}
}

// takenByWords reads a row as the chapter's words say.
func takenByWords(data string) (int, api.Row, bool) {
	var head [3]uint64
	for i := range head {
		n, rest, ok := varint.Take(data)
		if !ok {
			return 0, api.Row{}, false
		}
		head[i], data = n, rest
	}
	r := api.Row{Version: int(head[1])}
	for data != "" && len(r.Values) < 20 {
		v, rest, e := key.Take(data)
		if e != api.OK {
			return 0, api.Row{}, false
		}
		r.Values, data = append(r.Values, v), rest
	}
	return int(head[0]), r, data == "" && head[0] <= 1000000 && head[1] <= 1000000 && head[2] <= 12 && int(head[2]) == len(r.Values)
}

// hurt is a text with one of its bytes changed, or taken out, or with one more.
func hurt(r *rand.Rand, s string) string {
	if s == "" {
		return s
	}
	i, b := r.Intn(len(s)), string([]byte{byte(r.Intn(256))})
	if r.Intn(2) == 0 {
		b = string([]byte{s[i] + byte(r.Intn(5)) - 2})
	}
	switch r.Intn(4) {
	case 0:
		return s[:i] + s[i+1:]
	case 1:
		return s[:i] + b + s[i:]
	}
	return s[:i] + b + s[i+1:]
}

func TestH2Words(t *testing.T) {
	r := rand.New(rand.NewSource(2))
	read := 0
	for range 20000 {
		table, w := r.Intn(300), api.Row{Version: r.Intn(300), Values: anyValues(r, r.Intn(14))}
		data, e := Put(table, w)
		if right := len(w.Values) <= 12 && !slices.ContainsFunc(w.Values, func(v api.Value) bool { return !value.Right(v) }); right != (e == api.OK) {
			t.Fatalf("Put(%d, %v): %v", table, w, e)
		}
		if e != api.OK {
			data = encodedRow(table, w)
		}
		data = hurt(r, data)
		n, got, e := Take(data)
		m, want, ok := takenByWords(data)
		if ok != (e == api.OK) || ok && (n != m || !sameRow(got, want)) || !ok && (n != 0 || !sameRow(got, api.Row{}) || e != api.ErrForm) {
			t.Fatalf("Take(%q): %d %v %v, not %d %v %v", data, n, got, e, m, want, ok)
		}
		if ok {
			read++
			if again, e := Put(n, got); again != data || e != api.OK {
				t.Fatalf("Put(%d, %v): %q %v, not %q", n, got, again, e, data)
			}
		}
	}
	if read < 1000 {
		t.Error("too few of them can be read:", read)
	}
}

// unpackedByWords reads a schema as the chapter's words say.
func unpackedByWords(text string) (s api.Schema, rest string, ok bool) {
	next := func(most uint64) int {
		n, behind, good := varint.Take(text)
		ok = ok && good && n <= most
		text = behind
		return int(n % (1 << 30))
	}
	ok = true
	s.Version, s.Next = next(1000000), next(1000)
	many := next(12)
	for i := 0; ok && i < many; i++ {
		f := api.Field{ID: next(1000), Kind: next(6)}
		size := next(24)
		if !ok || len(text) < size {
			return api.Schema{}, "", false
		}
		f.Name = text[:size]
		v, behind, e := key.Take(text[size:])
		ok = e == api.OK
		f.Default, text = v, behind
		s.Fields = append(s.Fields, f)
	}
	if !ok || !isRightByWords(s) {
		return api.Schema{}, "", false
	}
	return s, text, true
}

func TestH3Words(t *testing.T) {
	r := rand.New(rand.NewSource(3))
	read := 0
	for range 20000 {
		s := anySchema(r)
		text := encodedSchema(s)
		if p, e := Pack(s); Right(s) != (e == api.OK) || e == api.OK && p != text {
			t.Fatalf("Pack(%v): %q %v", s, p, e)
		}
		if r.Intn(3) > 0 {
			text = hurt(r, text)
		}
		text += x(r.Intn(3))
		got, rest, e := Unpack(text)
		want, behind, ok := unpackedByWords(text)
		if ok != (e == api.OK) || !same(got, want) || rest != behind || !ok && e != api.ErrForm {
			t.Fatalf("Unpack(%q): %v %q %v, not %v %q %v", text, got, rest, e, want, behind, ok)
		}
		if ok {
			read++
			if again, e := Pack(got); again+rest != text || e != api.OK {
				t.Fatalf("Pack(%v): %q %v, not %q", got, again, e, text)
			}
		}
	}
	if read < 1000 {
		t.Error("too few of them can be read:", read)
	}
}

func TestH4FitsCanBePut(t *testing.T) {
	r := rand.New(rand.NewSource(4))
	put := 0
	for range 4000 {
		s := anySchema(r)
		w := api.Row{Version: s.Version}
		for _, f := range s.Fields {
			v := anyValue(r)
			if r.Intn(6) > 0 {
				v = f.Default
			}
			w.Values = append(w.Values, v)
		}
		if !Right(s) || Fits(s, w.Values) != api.OK {
			continue
		}
		put++
		data, e := Put(1000000, w)
		if e != api.OK {
			t.Fatalf("Put(%v): %v", w, e)
		}
		if table, got, e := Take(data); table != 1000000 || !sameRow(got, w) || e != api.OK {
			t.Fatalf("Take(%q): %d %v %v", data, table, got, e)
		}
	}
	if put < 100 {
		t.Error("too few of them can be put:", put)
	}
}

// What calls are given is not changed, and what they answer is their own.
func TestP3Apart(t *testing.T) {
	s, kept := example(), example()
	l := []api.Value{of(api.Int16, 1, ""), of(api.Word, 0, "x"), of(api.Bool, 9, "beyond")}
	was := slices.Clone(l)
	f, _ := Find(s, "b")
	f.Name = "other"
	text, _ := Pack(s)
	data, _ := Put(7, api.Row{Version: 1, Values: l[:2]})
	if e := Fits(s, l[:2]); e != api.OK {
		t.Error(e)
	}
	_, first, _ := Take(data)
	_, second, _ := Take(data)
	first.Values[0].N = 99
	_ = append(first.Values[:1], of(api.Bool, 1, ""))
	if !slices.Equal(second.Values, l[:2]) {
		t.Error(second)
	}
	one, _, _ := Unpack(text)
	two, _, _ := Unpack(text)
	one.Fields[1].Name = "z"
	if !same(two, kept) || !same(s, kept) || !slices.Equal(l, was) {
		t.Error(two, s, l)
	}
}

// What lies beyond the length of a list is not read.
func TestP3Beyond(t *testing.T) {
	s := wide(13)
	s.Fields = s.Fields[:12]
	if !Right(s) {
		t.Error("not valid")
	}
	if _, ok := Find(s, "f12"); ok {
		t.Error("found by name")
	}
	if _, ok := ByID(s, 13); ok {
		t.Error("found by number")
	}
}
