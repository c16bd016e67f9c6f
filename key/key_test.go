package key

import (
	"math"
	"slices"
	"strings"
	"testing"

	"moult/api"
	"moult/value"
)

func of(kind, n int, s string) api.Value { return api.Value{Kind: kind, N: n, S: s} }

func x(n int) string { return strings.Repeat("x", n) }

func zeros(n int) string { return strings.Repeat("\x00", n) }

var noKinds = []int{math.MinInt, -250, -1, 0, 7, 8, 255, 256, 257, 1<<8 + api.Text, 1<<32 + 1, math.MaxInt}

// encodings are valid values with their bytes, and at each edge that the document names; both rise.
var encodings = []struct {
	v api.Value
	s string
}{
	{of(api.Bool, 0, ""), "\x01\x00"},
	{of(api.Bool, 1, ""), "\x01\x01"},
	{of(api.Int16, -32768, ""), "\x02\x00\x00"},
	{of(api.Int16, -32767, ""), "\x02\x00\x01"},
	{of(api.Int16, -257, ""), "\x02\x7e\xff"},
	{of(api.Int16, -256, ""), "\x02\x7f\x00"},
	{of(api.Int16, -1, ""), "\x02\x7f\xff"},
	{of(api.Int16, 0, ""), "\x02\x80\x00"},
	{of(api.Int16, 5, ""), "\x02\x80\x05"},
	{of(api.Int16, 0x0102, ""), "\x02\x81\x02"},
	{of(api.Int16, 32767, ""), "\x02\xff\xff"},
	{of(api.Int32, -2147483648, ""), "\x03\x00\x00\x00\x00"},
	{of(api.Int32, -2147483647, ""), "\x03\x00\x00\x00\x01"},
	{of(api.Int32, -32769, ""), "\x03\x7f\xff\x7f\xff"},
	{of(api.Int32, -1, ""), "\x03\x7f\xff\xff\xff"},
	{of(api.Int32, 0, ""), "\x03\x80\x00\x00\x00"},
	{of(api.Int32, 0x01020304, ""), "\x03\x81\x02\x03\x04"},
	{of(api.Int32, 2147483647, ""), "\x03\xff\xff\xff\xff"},
	{of(api.Int64, math.MinInt64, ""), "\x04\x00\x00\x00\x00\x00\x00\x00\x00"},
	{of(api.Int64, math.MinInt64+1, ""), "\x04\x00\x00\x00\x00\x00\x00\x00\x01"},
	{of(api.Int64, -2147483649, ""), "\x04\x7f\xff\xff\xff\x7f\xff\xff\xff"},
	{of(api.Int64, -1, ""), "\x04\x7f\xff\xff\xff\xff\xff\xff\xff"},
	{of(api.Int64, 0, ""), "\x04\x80\x00\x00\x00\x00\x00\x00\x00"},
	{of(api.Int64, 7, ""), "\x04\x80\x00\x00\x00\x00\x00\x00\x07"},
	{of(api.Int64, 0x0102030405060708, ""), "\x04\x81\x02\x03\x04\x05\x06\x07\x08"},
	{of(api.Int64, math.MaxInt64, ""), "\x04\xff\xff\xff\xff\xff\xff\xff\xff"},
	{of(api.Word, 0, ""), "\x05\x00\x00"},
	{of(api.Word, 0, "\x00"), "\x05\x00\xff\x00\x00"},
	{of(api.Word, 0, zeros(32)), "\x05" + strings.Repeat("\x00\xff", 32) + "\x00\x00"},
	{of(api.Word, 0, "\x00\x01"), "\x05\x00\xff\x01\x00\x00"},
	{of(api.Word, 0, "\x00\xff"), "\x05\x00\xff\xff\x00\x00"},
	{of(api.Word, 0, "\x01"), "\x05\x01\x00\x00"},
	{of(api.Word, 0, "a"), "\x05a\x00\x00"},
	{of(api.Word, 0, "a\x00"), "\x05a\x00\xff\x00\x00"},
	{of(api.Word, 0, "a\x00b"), "\x05a\x00\xffb\x00\x00"},
	{of(api.Word, 0, "a\x01"), "\x05a\x01\x00\x00"},
	{of(api.Word, 0, "a\xff"), "\x05a\xff\x00\x00"},
	{of(api.Word, 0, x(32)), "\x05" + x(32) + "\x00\x00"},
	{of(api.Word, 0, "é"), "\x05\xc3\xa9\x00\x00"},
	{of(api.Word, 0, "\xff"), "\x05\xff\x00\x00"},
	{of(api.Word, 0, "\xff\x00"), "\x05\xff\x00\xff\x00\x00"},
	{of(api.Text, 0, ""), "\x06\x00\x00"},
	{of(api.Text, 0, zeros(2)), "\x06\x00\xff\x00\xff\x00\x00"},
	{of(api.Text, 0, zeros(1000)), "\x06" + strings.Repeat("\x00\xff", 1000) + "\x00\x00"},
	{of(api.Text, 0, x(33)), "\x06" + x(33) + "\x00\x00"},
	{of(api.Text, 0, x(999)+"\x00"), "\x06" + x(999) + "\x00\xff\x00\x00"},
	{of(api.Text, 0, x(1000)), "\x06" + x(1000) + "\x00\x00"},
	{of(api.Text, 0, "y"), "\x06y\x00\x00"},
}

var wrong = []api.Value{
	{},
	of(api.Bool, -1, ""), of(api.Bool, 2, ""), of(api.Bool, 256, ""), of(api.Bool, 0, "x"), of(api.Bool, 1, "\x00"),
	of(api.Int16, -32769, ""), of(api.Int16, 32768, ""), of(api.Int16, 1<<16, ""), of(api.Int16, 0, "x"),
	of(api.Int32, -2147483649, ""), of(api.Int32, 2147483648, ""), of(api.Int32, 1<<32, ""), of(api.Int32, 0, "x"),
	of(api.Int16, math.MinInt, ""), of(api.Int32, math.MaxInt, ""), of(api.Int64, 0, "x"),
	of(api.Word, 1, ""), of(api.Word, -1, "x"), of(api.Word, 0, x(33)), of(api.Word, 0, zeros(33)),
	of(api.Text, 1, ""), of(api.Text, -1, "x"), of(api.Text, 0, x(1001)), of(api.Text, 0, zeros(1001)), of(api.Text, 0, x(1<<20)),
}

func take(t *testing.T, s string, v api.Value, rest string, want api.Errno) {
	t.Helper()
	if w, r, e := Take(s); w != v || r != rest || e != want {
		t.Errorf("Take(%.40q): %.40v %.40q %v, not %.40v %.40q %v", s, w, r, e, v, rest, want)
	}
}

func takeNone(t *testing.T, s string) {
	t.Helper()
	take(t, s, api.Value{}, "", api.ErrForm)
}

func TestK1Put(t *testing.T) {
	for _, c := range encodings {
		if s, e := Put(c.v); s != c.s || e != api.OK {
			t.Errorf("Put(%.40v): %.40q %v, not %.40q", c.v, s, e, c.s)
		}
	}
}

func TestK1PutOfWrong(t *testing.T) {
	for _, v := range wrong {
		if s, e := Put(v); s != "" || e != api.ErrArg {
			t.Errorf("Put(%.40v): %.40q %v", v, s, e)
		}
	}
	for _, k := range noKinds {
		for _, v := range []api.Value{of(k, 0, ""), of(k, 1, ""), of(k, 0, "x")} {
			if s, e := Put(v); s != "" || e != api.ErrArg {
				t.Errorf("Put(%v): %q %v", v, s, e)
			}
		}
	}
}

func TestK1Take(t *testing.T) {
	take(t, "\x02\x80\x05\x09", of(api.Int16, 5, ""), "\x09", api.OK)
	for _, c := range encodings {
		for _, rest := range []string{"", "\x00", "\x00\x00", "\xff", "\x00\xff", "rest", c.s, c.s + c.s} {
			take(t, c.s+rest, c.v, rest, api.OK)
		}
	}
}

func TestK1TakeOfTooFew(t *testing.T) {
	for _, c := range encodings {
		for i := range len(c.s) {
			takeNone(t, c.s[:i])
		}
	}
}

func TestK1TakeOfNone(t *testing.T) {
	for _, s := range []string{
		"\x01\x02", "\x01\xff", "\x01\x80",
		"\x05\x00\x01", "\x05a\x00\x01\x00\x00", "\x05a\x00\xfe\x00\x00", "\x06\x00\x01\x00\x00", "\x06\x00\x7f\x00\x00",
		"\x05a\x00\xff", "\x05a\x00\xff\x00", "\x05abc", "\x06\xff\xff\xff",
		"\x05" + x(33) + "\x00\x00", "\x05" + strings.Repeat("\x00\xff", 33) + "\x00\x00", "\x05" + x(1000) + "\x00\x00",
		"\x06" + x(1001) + "\x00\x00", "\x06" + strings.Repeat("\x00\xff", 1001) + "\x00\x00", "\x06" + x(1000) + "\x00\xff\x00\x00",
		"\x05" + x(1<<20), "\x06" + x(1<<20), "\x06" + x(1<<20) + "\x00\x00", "\x06" + strings.Repeat("\x00\xff", 1<<20),
	} {
		takeNone(t, s)
		takeNone(t, s+"\x02")
	}
	for first := range 256 {
		if first < api.Bool || first > api.Text {
			for _, tail := range []string{"", "\x00", "\x01", "a\x00\x00", "\x00\x00\x00\x00\x00\x00\x00\x00", "\x80\x00\x00\x00\x00\x00\x00\x00\x00"} {
				takeNone(t, string([]byte{byte(first)})+tail)
			}
		}
	}
}

// TestK1TakeOfAny reads all short strings of some bytes: each begins with the encoding of at most one value, and that one is found.
func TestK1TakeOfAny(t *testing.T) {
	const alphabet, most = "\x00\x01\x02\x03\x05\x06\x07a\xff", 5
	strs := []string{""}
	for len(strs) > 0 {
		s := strs[len(strs)-1]
		strs = strs[:len(strs)-1]
		if v, rest, e := Take(s); e == api.OK {
			p, e := Put(v)
			if e != api.OK || p+rest != s {
				t.Fatalf("Take(%q): %v %q", s, v, rest)
			}
		} else if e != api.ErrForm || v != (api.Value{}) || rest != "" || beginsWithValue(s) {
			t.Fatalf("Take(%q): %v %q %v", s, v, rest, e)
		}
		for i := 0; len(s) < most && i < len(alphabet); i++ {
			strs = append(strs, s+alphabet[i:i+1])
		}
	}
}

// beginsWithValue tells it of short strings, by what the document says of each kind.
func beginsWithValue(s string) bool {
	if s == "" {
		return false
	}
	switch rest := s[1:]; s[0] {
	case api.Bool:
		return strings.HasPrefix(rest, "\x00") || strings.HasPrefix(rest, "\x01")
	case api.Int16:
		return len(rest) >= 2
	case api.Int32:
		return len(rest) >= 4
	case api.Int64:
		return len(rest) >= 8
	case api.Word, api.Text:
		end := strings.Index(strings.ReplaceAll(rest, "\x00\xff", "zz"), "\x00")
		return end >= 0 && strings.HasPrefix(rest[end:], "\x00\x00")
	}
	return false
}

func tuple(t *testing.T, l []api.Value, s string, want api.Errno) {
	t.Helper()
	if got, e := Tuple(l); got != s || e != want {
		t.Errorf("Tuple(%.80v): %.80q %v, not %.80q %v", l, got, e, s, want)
	}
}

func untuple(t *testing.T, s string, l []api.Value, want api.Errno) {
	t.Helper()
	if got, e := Untuple(s); !slices.Equal(got, l) || e != want {
		t.Errorf("Untuple(%.80q): %.80v %v, not %.80v %v", s, got, e, l, want)
	}
}

func TestK2Tuple(t *testing.T) {
	tuple(t, nil, "", api.OK)
	tuple(t, []api.Value{}, "", api.OK)
	tuple(t, []api.Value{of(api.Word, 0, "t"), of(api.Int64, 7, ""), of(api.Bool, 1, "")}, "\x05t\x00\x00\x04\x80\x00\x00\x00\x00\x00\x00\x07\x01\x01", api.OK)
	for _, c := range encodings {
		tuple(t, []api.Value{c.v}, c.s, api.OK)
		for _, d := range encodings {
			tuple(t, []api.Value{c.v, d.v, c.v}, c.s+d.s+c.s, api.OK)
		}
	}
}

func TestK2TupleOfWrong(t *testing.T) {
	good := of(api.Int16, 5, "")
	for _, v := range wrong {
		tuple(t, []api.Value{v}, "", api.ErrArg)
		tuple(t, []api.Value{v, good}, "", api.ErrArg)
		tuple(t, []api.Value{good, v, good}, "", api.ErrArg)
		tuple(t, append(slices.Repeat([]api.Value{good}, 19), v), "", api.ErrArg)
	}
}

func TestK2TupleOfMany(t *testing.T) {
	v, s := of(api.Int16, 5, ""), "\x02\x80\x05"
	many := slices.Repeat([]api.Value{v}, 100)
	for n := range 21 {
		tuple(t, many[:n], strings.Repeat(s, n), api.OK)
		untuple(t, strings.Repeat(s, n), many[:n], api.OK)
	}
	for n := 21; n <= 100; n++ {
		tuple(t, many[:n], "", api.ErrArg)
		untuple(t, strings.Repeat(s, n), nil, api.ErrForm)
	}
	untuple(t, strings.Repeat("\x01\x00", 1<<18), nil, api.ErrForm)
	text := of(api.Text, 0, zeros(1000))
	tuple(t, slices.Repeat([]api.Value{text}, 20), strings.Repeat("\x06"+strings.Repeat("\x00\xff", 1000)+"\x00\x00", 20), api.OK)
}

func TestK2Untuple(t *testing.T) {
	untuple(t, "", nil, api.OK)
	for _, c := range encodings {
		untuple(t, c.s, []api.Value{c.v}, api.OK)
		for _, d := range encodings {
			untuple(t, c.s+d.s+c.s, []api.Value{c.v, d.v, c.v}, api.OK)
		}
	}
}

func TestK2UntupleOfNone(t *testing.T) {
	full := strings.Repeat("\x01\x00", 20)
	for _, s := range []string{
		"\x00", "\x07", "\xff", "\x01", "\x01\x02", "\x05a", "\x05a\x00\x00\x00", "\x01\x01\x01", "\x01\x01\x00", "\x02\x80\x05\x09",
		"\x05" + x(33) + "\x00\x00", "\x06" + x(1001) + "\x00\x00", full + "\x00", full + "\x01", full + "\x01\x00", full + "\x01\x02",
	} {
		untuple(t, s, nil, api.ErrForm)
		untuple(t, "\x01\x00"+s, nil, api.ErrForm)
		untuple(t, s+"\x07", nil, api.ErrForm)
	}
}

// TestK2UntupleOfAny reads all short strings of some bytes: what is answered is what Tuple makes into that string.
func TestK2UntupleOfAny(t *testing.T) {
	const alphabet, most = "\x00\x01\x02\x05\x06a\xff", 6
	strs := []string{""}
	for len(strs) > 0 {
		s := strs[len(strs)-1]
		strs = strs[:len(strs)-1]
		l, e := Untuple(s)
		if p, _ := Tuple(l); e == api.OK && p != s || e != api.OK && (e != api.ErrForm || len(l) > 0) || e != wholes(s) {
			t.Fatalf("Untuple(%q): %v %v", s, l, e)
		}
		for i := 0; len(s) < most && i < len(alphabet); i++ {
			strs = append(strs, s+alphabet[i:i+1])
		}
	}
}

// wholes is what to expect of a short string: whether values, one behind the other, use it up.
func wholes(s string) api.Errno {
	if s == "" {
		return api.OK
	}
	for n := 1; n <= len(s) && beginsWithValue(s); n++ {
		if beginsWithValue(s[:n]) {
			return wholes(s[n:])
		}
	}
	return api.ErrForm
}

func after(t *testing.T, s, want string, ok bool) {
	t.Helper()
	if got, gotOK := After(s); got != want || gotOK != ok {
		t.Errorf("After(%.40q): %.40q %v, not %.40q %v", s, got, gotOK, want, ok)
	}
}

func TestK3After(t *testing.T) {
	after(t, "az", "a{", true)
	after(t, "\x00", "\x01", true)
	after(t, "\x00\x00", "\x00\x01", true)
	after(t, "a\xff", "b", true)
	after(t, "a\xfe", "a\xff", true)
	after(t, "ab\xff\xff", "ac", true)
	after(t, "a\xffb", "a\xffc", true)
	after(t, "a\xff\xfe\xff", "a\xff\xff", true)
	after(t, "\xfe\xff\xff", "\xff", true)
	after(t, "\xff\x00", "\xff\x01", true)
	after(t, "\xff\x00\xff", "\xff\x01", true)
	after(t, "\x7f", "\x80", true)
	after(t, "é", "\xc3\xaa", true)
	after(t, "a"+strings.Repeat("\xff", 1<<16), "b", true)
}

func TestK3AfterOfNone(t *testing.T) {
	for n := range 300 {
		after(t, strings.Repeat("\xff", n), "", false)
	}
	after(t, strings.Repeat("\xff", 1<<20), "", false)
}

// TestK3AfterIsLeast holds After against all short strings: none that is less stands behind all that begin with s.
func TestK3AfterIsLeast(t *testing.T) {
	const alphabet, most = "\x00\x01\x7f\x80\xfe\xff", 4
	strs := []string{""}
	for i := 0; i < len(strs) && len(strs[i]) < most; i++ {
		for j := range len(alphabet) {
			strs = append(strs, strs[i]+alphabet[j:j+1])
		}
	}
	slices.Sort(strs)
	for _, s := range strs {
		a, ok := After(s)
		if ok != canGrow(s) {
			t.Fatalf("After(%q): %q %v", s, a, ok)
		}
		for _, x := range strs {
			behind := x > s && !strings.HasPrefix(x, s)
			if ok && behind != (x >= a) || !ok && (behind || a != "") {
				t.Fatalf("After(%q): %q %v, but %q", s, a, ok, x)
			}
		}
	}
}

// canGrow tells whether some byte is not 255.
func canGrow(s string) bool {
	for i := range len(s) {
		if s[i] < 255 {
			return true
		}
	}
	return false
}

// many are valid values in their order, some of them alike but for their kinds.
func many() []api.Value {
	var l []api.Value
	for n := -700; n <= 700; n++ {
		l = append(l, of(api.Int16, n, ""), of(api.Int32, n, ""), of(api.Int64, n, ""))
	}
	for i := range 63 {
		for d := -1; d <= 1; d++ {
			for _, k := range []int{api.Int16, api.Int32, api.Int64} {
				l = append(l, of(k, 1<<i+d, ""), of(k, -1<<i+d, ""))
			}
		}
	}
	pieces := []string{"", "\x00", "\x00\x00", "\x01", "\x00\xff", "a", "b", "\xfe", "\xff", x(29), zeros(1)}
	for _, a := range pieces {
		for _, b := range pieces {
			for _, c := range pieces {
				l = append(l, of(api.Word, 0, a+b+c), of(api.Text, 0, a+b+c))
			}
		}
	}
	for _, c := range encodings {
		l = append(l, c.v)
	}
	l = slices.DeleteFunc(l, func(v api.Value) bool { return !value.Right(v) })
	slices.SortFunc(l, value.Compare)
	return slices.Compact(l)
}

func TestK4Order(t *testing.T) {
	last := ""
	for _, v := range many() {
		s, e := Put(v)
		if e != api.OK || s <= last {
			t.Fatalf("%.40v: %.40q %v behind %.40q", v, s, e, last)
		}
		last = s
	}
}

// TestK4NoPrefix holds values far from each other against each other as well, since a prefix need not be a neighbour.
func TestK4NoPrefix(t *testing.T) {
	var puts []string
	for i, v := range many() {
		if v.S != "" || i%7 == 0 {
			s, _ := Put(v)
			puts = append(puts, s)
		}
	}
	for i, a := range puts {
		for j, b := range puts {
			if i != j && strings.HasPrefix(b, a) || (i < j) != (a < b) {
				t.Fatalf("%.40q and %.40q", a, b)
			}
		}
	}
}

func TestK4OrderOfInt16(t *testing.T) {
	last := ""
	for n := math.MinInt16; n <= math.MaxInt16; n++ {
		s, e := Put(of(api.Int16, n, ""))
		if e != api.OK || len(s) != 3 || s <= last {
			t.Fatalf("%d: %q %v", n, s, e)
		}
		take(t, s+"z", of(api.Int16, n, ""), "z", api.OK)
		last = s
	}
}

func TestK4OrderOfTuples(t *testing.T) {
	some := []api.Value{
		of(api.Bool, 0, ""), of(api.Bool, 1, ""), of(api.Int16, -1, ""), of(api.Int16, 256, ""), of(api.Int64, math.MinInt64, ""),
		of(api.Word, 0, ""), of(api.Word, 0, "\x00"), of(api.Word, 0, "a"), of(api.Word, 0, "a\x00"), of(api.Word, 0, "a\xff"),
		of(api.Text, 0, ""), of(api.Text, 0, "\x00"), of(api.Text, 0, "\xff"),
	}
	tuples := [][]api.Value{{}}
	for _, a := range some {
		tuples = append(tuples, []api.Value{a})
		for _, b := range some {
			tuples = append(tuples, []api.Value{a, b}, []api.Value{a, b, of(api.Int32, 0, "")}, []api.Value{of(api.Word, 0, "k"), a, b})
		}
	}
	slices.SortFunc(tuples, func(a, b []api.Value) int { return slices.CompareFunc(a, b, value.Compare) })
	tuples = slices.CompactFunc(tuples, slices.Equal)
	for i, l := range tuples[1:] {
		low, _ := Tuple(tuples[i])
		high, e := Tuple(l)
		if e != api.OK || low >= high {
			t.Errorf("%v and %v: %q and %q", tuples[i], l, low, high)
		}
	}
}

func TestK4Inverse(t *testing.T) {
	all, l := strings.Builder{}, many()
	for _, v := range l {
		s, _ := Put(v)
		take(t, s, v, "", api.OK)
		all.WriteString(s)
	}
	rest := all.String()
	for _, want := range l {
		v, behind, e := Take(rest)
		if v != want || e != api.OK {
			t.Fatalf("%.40v %v, not %.40v", v, e, want)
		}
		rest = behind
	}
	if rest != "" {
		t.Errorf("%q is left", rest)
	}
	for part := range slices.Chunk(l, 20) {
		s, _ := Tuple(part)
		untuple(t, s, part, api.OK)
	}
}

// TestK4OneForm spoils encodings byte by byte: what is read still has just that encoding, so that no value has two.
func TestK4OneForm(t *testing.T) {
	for _, c := range encodings {
		for i := 0; i < len(c.s) && len(c.s) < 80; i++ {
			for b := range 256 {
				spoilt := c.s[:i] + string([]byte{byte(b)}) + c.s[i+1:]
				v, rest, e := Take(spoilt)
				if p, _ := Put(v); e == api.OK && p+rest != spoilt || e != api.OK && (e != api.ErrForm || v != api.Value{} || rest != "") {
					t.Fatalf("Take(%q): %v %q %v", spoilt, v, rest, e)
				}
			}
		}
	}
}

func TestP3TupleLeavesItsList(t *testing.T) {
	l := []api.Value{of(api.Bool, 1, ""), of(api.Word, 0, "a"), of(api.Bool, 2, ""), of(api.Int16, 5, "")}
	before := slices.Clone(l)
	tuple(t, l[:2], "\x01\x01\x05a\x00\x00", api.OK)
	tuple(t, l, "", api.ErrArg)
	if !slices.Equal(l, before) {
		t.Errorf("the list is %v", l)
	}
}

func TestP3UntupleIsNew(t *testing.T) {
	const s = "\x01\x01\x01\x00\x05a\x00\x00"
	l, _ := Untuple(s)
	again, _ := Untuple(s)
	clear(l[:cap(l)])
	want := []api.Value{of(api.Bool, 1, ""), of(api.Bool, 0, ""), of(api.Word, 0, "a")}
	if !slices.Equal(again, want) {
		t.Error("a list that was answered is shared")
	}
	untuple(t, s, want, api.OK)
}
