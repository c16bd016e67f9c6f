package value

import (
	"math"
	"slices"
	"strings"
	"testing"

	"moult/api"
)

func of(kind, n int, s string) api.Value { return api.Value{Kind: kind, N: n, S: s} }

var kinds = []int{api.Bool, api.Int16, api.Int32, api.Int64, api.Word, api.Text}

var noKinds = []int{math.MinInt, -2, -1, 0, 7, 8, 1 << 8, 1<<8 + 1, 1<<32 + 1, math.MaxInt}

// xs is n bytes that each need four in a form.
func xs(n int) string { return strings.Repeat("\x00", n) }

// valid values with their forms, and at each edge that the document names.
var forms = []struct {
	v    api.Value
	form string
}{
	{of(api.Bool, 0, ""), "no"},
	{of(api.Bool, 1, ""), "yes"},
	{of(api.Int16, -32768, ""), "-32768s"},
	{of(api.Int16, -5, ""), "-5s"},
	{of(api.Int16, 0, ""), "0s"},
	{of(api.Int16, 32767, ""), "32767s"},
	{of(api.Int32, -2147483648, ""), "-2147483648i"},
	{of(api.Int32, -1, ""), "-1i"},
	{of(api.Int32, 0, ""), "0i"},
	{of(api.Int32, 100, ""), "100i"},
	{of(api.Int32, 2147483647, ""), "2147483647i"},
	{of(api.Int64, math.MinInt64, ""), "-9223372036854775808"},
	{of(api.Int64, -10, ""), "-10"},
	{of(api.Int64, 0, ""), "0"},
	{of(api.Int64, 7, ""), "7"},
	{of(api.Int64, math.MaxInt64, ""), "9223372036854775807"},
	{of(api.Word, 0, ""), `''`},
	{of(api.Word, 0, "no"), `'no'`},
	{of(api.Word, 0, "a'b"), `'a\'b'`},
	{of(api.Word, 0, `a"b`), `'a"b'`},
	{of(api.Word, 0, `\`), `'\\'`},
	{of(api.Word, 0, `\x41`), `'\\x41'`},
	{of(api.Word, 0, "\x00\x1f ~\x7f\x80\xff"), `'\x00\x1f ~\x7f\x80\xff'`},
	{of(api.Word, 0, "é"), `'\xc3\xa9'`},
	{of(api.Word, 0, strings.Repeat("w", 32)), "'" + strings.Repeat("w", 32) + "'"},
	{of(api.Word, 0, xs(32)), "'" + strings.Repeat(`\x00`, 32) + "'"},
	{of(api.Text, 0, ""), `""`},
	{of(api.Text, 0, "yes"), `"yes"`},
	{of(api.Text, 0, "\n"), `"\x0a"`},
	{of(api.Text, 0, "a'b"), `"a'b"`},
	{of(api.Text, 0, `a"b`), `"a\"b"`},
	{of(api.Text, 0, `\\`), `"\\\\"`},
	{of(api.Text, 0, "\t\r\xab\xcd\xef"), `"\x09\x0d\xab\xcd\xef"`},
	{of(api.Text, 0, strings.Repeat("t", 1000)), `"` + strings.Repeat("t", 1000) + `"`},
	{of(api.Text, 0, xs(1000)), `"` + strings.Repeat(`\x00`, 1000) + `"`},
}

var wrong = []api.Value{
	{},
	of(api.Bool, -1, ""), of(api.Bool, 2, ""), of(api.Bool, 0, "x"), of(api.Bool, 1, "\x00"), of(api.Bool, 1<<32, ""),
	of(api.Int16, -32769, ""), of(api.Int16, 32768, ""), of(api.Int16, 1<<16, ""), of(api.Int16, 1, "x"),
	of(api.Int32, -2147483649, ""), of(api.Int32, 2147483648, ""), of(api.Int32, 1<<32, ""), of(api.Int32, 1, "x"),
	of(api.Int16, math.MinInt, ""), of(api.Int32, math.MaxInt, ""), of(api.Int64, 1, "x"),
	of(api.Word, 1, ""), of(api.Word, -1, "x"), of(api.Word, 0, strings.Repeat("w", 33)), of(api.Word, 1<<32, ""),
	of(api.Text, 1, ""), of(api.Text, -1, "x"), of(api.Text, 0, strings.Repeat("t", 1001)),
	of(api.Text, 0, strings.Repeat("t", 1<<20)),
}

func TestV1Right(t *testing.T) {
	for _, c := range forms {
		if !Right(c.v) {
			t.Errorf("%v is valid", c.v)
		}
	}
	for _, v := range wrong {
		if Right(v) {
			t.Errorf("%v is not valid", v)
		}
	}
	for _, k := range noKinds {
		if Right(of(k, 0, "")) || Right(of(k, 1, "")) || Right(of(k, 0, "x")) {
			t.Errorf("%d is not a kind", k)
		}
	}
}

func TestV1Zero(t *testing.T) {
	for _, k := range kinds {
		if v, ok := Zero(k); !ok || v != of(k, 0, "") {
			t.Errorf("Zero(%d): %v %v", k, v, ok)
		}
	}
	for _, k := range noKinds {
		if v, ok := Zero(k); ok || v != (api.Value{}) {
			t.Errorf("Zero(%d): %v %v", k, v, ok)
		}
	}
}

// rising are values in their order, those that are not valid among them.
var rising = []api.Value{
	of(math.MinInt, math.MaxInt, "z"), of(-1, 5, ""),
	of(0, 0, ""), of(0, 0, "a"),
	of(api.Bool, 0, ""), of(api.Bool, 0, "\xff"), of(api.Bool, 1, ""), of(api.Bool, 2, ""),
	of(api.Int16, -9, "b"), of(api.Int16, 3, "a"), of(api.Int16, 5, ""),
	of(api.Int32, math.MinInt, ""), of(api.Int32, 1, ""),
	of(api.Int64, math.MinInt, ""), of(api.Int64, -1, ""), of(api.Int64, 0, ""), of(api.Int64, math.MaxInt, ""),
	of(api.Word, 0, ""), of(api.Word, 0, "\x00"), of(api.Word, 0, "A"), of(api.Word, 0, "a"), of(api.Word, 0, "a\x00"),
	of(api.Word, 0, "aa"), of(api.Word, 0, "b"), of(api.Word, 0, "\x7f"), of(api.Word, 0, "\x80"), of(api.Word, 0, "é"),
	of(api.Word, 0, "\xff"), of(api.Word, 0, "\xff\x00"), of(api.Word, 1, ""),
	of(api.Text, -1, "z"), of(api.Text, 0, "a"), of(api.Text, 0, strings.Repeat("b", 2000)),
	of(7, math.MinInt, ""), of(math.MaxInt, 0, ""),
}

func TestV2Compare(t *testing.T) {
	for i, a := range rising {
		for k, b := range rising {
			want := 0
			if i < k {
				want = -1
			}
			if i > k {
				want = 1
			}
			if n := Compare(a, b); n != want {
				t.Errorf("Compare(%v, %v): %d, not %d", a, b, n, want)
			}
		}
	}
	if n := Compare(of(api.Int16, 5, ""), of(api.Int32, 1, "")); n != -1 {
		t.Errorf("Int16 5 and Int32 1: %d", n)
	}
}

func TestV3Print(t *testing.T) {
	for _, c := range forms {
		if s := Print(c.v); s != c.form {
			t.Errorf("%v: %q, not %q", c.v, s, c.form)
		}
	}
	for _, v := range wrong {
		if s := Print(v); s != "" {
			t.Errorf("%v: %q", v, s)
		}
	}
	for _, k := range noKinds {
		if s := Print(of(k, 0, "")); s != "" {
			t.Errorf("kind %d: %q", k, s)
		}
	}
}

// TestV3Bytes asks the form of each byte, in both kinds that have some.
func TestV3Bytes(t *testing.T) {
	const hex = "0123456789abcdef"
	for b := range 256 {
		for kind, mark := range map[int]string{api.Word: "'", api.Text: `"`} {
			s := string([]byte{byte(b)})
			want := s
			if b < 32 || b > 126 {
				want = `\x` + hex[b/16:b/16+1] + hex[b%16:b%16+1]
			}
			if s == `\` || s == mark {
				want = `\` + s
			}
			if got := Print(of(kind, 0, s)); got != mark+want+mark {
				t.Errorf("byte %d of kind %d: %q", b, kind, got)
			}
		}
	}
}

func TestV4Read(t *testing.T) {
	for _, c := range forms {
		if v, e := Read(c.form); v != c.v || e != api.OK {
			t.Errorf("%q: %v %v", c.form, v, e)
		}
	}
	if v, e := Read(`'a'`); v != of(api.Word, 0, "a") || e != api.OK {
		t.Errorf("'a': %v %v", v, e)
	}
}

func TestV4NoForm(t *testing.T) {
	for _, s := range []string{
		"", " ", "n", "No", "NO", "yes ", " yes", "true", "noo", "nos", "yess",
		"-0", "-0s", "-0i", "00", "01", "-01", "007s", "+1", "+1s", " 1", "1 ", "--1", "-", "s", "i", "-s", "-i", "1S", "1I",
		"1si", "1is", "1ss", "1n", "1_0", "0x1", "1e3", "1.0", "0b1", "70000s", "32768s", "-32769s", "2147483648i", "-2147483649i",
		"9223372036854775808", "-9223372036854775809", "18446744073709551617", "65537s", strings.Repeat("9", 5000), "1\n", "\x001",
		`'`, `"`, `'a`, `a'`, `"a`, `a"`, `'a"`, `"a'`, `'a'b'`, `"a"b"`, `'''`, `"""`, `'a' `, ` 'a'`, `''s`,
		`'\'`, `"\"`, `'\\\'`, `'\"'`, `"\'"`, `'\a'`, `'\n'`, `'\0'`, `'\x'`, `'\x4'`, `'\x0'`, `'\x41'`, `'\x20'`, `'\x7e'`, `'\x27'`, `'\x5c'`,
		`'\xA0'`, `'\xaG'`, `'\x+1'`, `'\x_1'`, `'\X0a'`, `'\xff`, `'\x0`, `'\u0041'`,
		"'\n'", "'\x00'", "'\x1f'", "'\x7f'", "'\xff'", "\"\xc3\xa9\"",
		"'" + strings.Repeat("w", 33) + "'", "'" + strings.Repeat(`\x00`, 33) + "'",
		`"` + strings.Repeat("t", 1001) + `"`, `"` + strings.Repeat(`\x00`, 1001) + `"`, `"` + strings.Repeat("t", 4001) + `"`,
		`"` + strings.Repeat("t", 1<<20) + `"`,
	} {
		if v, e := Read(s); v != (api.Value{}) || e != api.ErrForm {
			t.Errorf("%q: %v %v", s, v, e)
		}
	}
}

// TestV4Short holds Read of all short strings of some bytes against the forms of all values that have forms so short.
func TestV4Short(t *testing.T) {
	const alphabet, most = `-+019ansxyei'"\ ` + "\n\xff", 4
	want := map[string]int{"no": 1, "yes": 1}
	for n := -999; n <= 9999; n++ {
		for _, k := range []int{api.Int16, api.Int32, api.Int64} {
			want[Print(of(k, n, ""))] = 1
		}
	}
	for _, k := range []int{api.Word, api.Text} {
		want[Print(of(k, 0, ""))] = 1
		for a := range 256 {
			want[Print(of(k, 0, string([]byte{byte(a)})))] = 1
			for b := range 256 {
				want[Print(of(k, 0, string([]byte{byte(a), byte(b)})))] = 1
			}
		}
	}
	strs := []string{""}
	for len(strs) > 0 {
		s := strs[0]
		strs = strs[1:]
		v, e := Read(s)
		if (e == api.OK) != (want[s] == 1) || e == api.OK && Print(v) != s || e != api.OK && (e != api.ErrForm || v != api.Value{}) {
			t.Errorf("%q: %v %v", s, v, e)
		}
		for i := 0; len(s) < most && i < len(alphabet); i++ {
			strs = append(strs, s+alphabet[i:i+1])
		}
	}
}

// TestV4Hex reads `\x` with all pairs of bytes behind it: digits that are not small, and bytes that have shorter forms, have no value.
func TestV4Hex(t *testing.T) {
	const hex = "0123456789abcdef"
	for a := range 256 {
		for b := range 256 {
			s := `"\x` + string([]byte{byte(a), byte(b)}) + `"`
			n, m := strings.IndexByte(hex, byte(a)), strings.IndexByte(hex, byte(b))
			c := n*16 + m
			good := n >= 0 && m >= 0 && (c < 32 || c > 126)
			v, e := Read(s)
			if good && (e != api.OK || v != of(api.Text, 0, string([]byte{byte(c)}))) || !good && (e != api.ErrForm || v != api.Value{}) {
				t.Fatalf("%q: %v %v", s, v, e)
			}
		}
	}
}

// many are valid values, some of them alike but for their kinds.
func many() []api.Value {
	var l []api.Value
	for n := math.MinInt16; n <= math.MaxInt16; n++ {
		l = append(l, of(api.Int16, n, ""), of(api.Int32, n, ""), of(api.Int64, n, ""))
	}
	for i := range 63 {
		l = append(l, of(api.Int64, 1<<i+1<<16, ""), of(api.Int64, -1<<i-1<<16, ""))
	}
	for _, c := range forms {
		l = append(l, c.v)
	}
	pieces := []string{"", "'", `"`, `\`, "x", "0", "a", " ", "\x00", "\n", "\xff"}
	for _, a := range pieces {
		for _, b := range pieces {
			for _, c := range pieces {
				l = append(l, of(api.Word, 0, a+b+c), of(api.Text, 0, a+b+c))
			}
		}
	}
	slices.SortFunc(l, Compare)
	return slices.Compact(l)
}

func TestV5Inverse(t *testing.T) {
	seen := map[string]api.Value{}
	for _, v := range many() {
		s := Print(v)
		if w, ok := seen[s]; ok || s == "" {
			t.Errorf("%q is the form of %v and %v", s, v, w)
		}
		seen[s] = v
		if w, e := Read(s); w != v || e != api.OK {
			t.Errorf("%q of %v: %v %v", s, v, w, e)
		}
	}
}

func TestV5TotalOrder(t *testing.T) {
	l := append(slices.Clone(rising), wrong...)
	for _, c := range forms {
		l = append(l, c.v)
	}
	for _, a := range l {
		for _, b := range l {
			n := Compare(a, b)
			if n != -Compare(b, a) || (n == 0) != (a == b) || n < -1 || n > 1 {
				t.Errorf("Compare(%v, %v): %d", a, b, n)
			}
			for _, c := range l {
				if n <= 0 && Compare(b, c) <= 0 && Compare(a, c) > 0 {
					t.Errorf("%v, %v, %v do not rise", a, b, c)
				}
			}
		}
	}
}

// TestP1AnyString reads strings that are spoilt forms: each call ends, and answers a value of just that form, or none.
func TestP1AnyString(t *testing.T) {
	for _, c := range forms {
		if len(c.form) > 200 {
			continue
		}
		for i := range c.form {
			for b := range 256 {
				spoilt := c.form[:i] + string([]byte{byte(b)}) + c.form[i+1:]
				for _, s := range []string{spoilt, spoilt[:i+1], spoilt[i:]} {
					v, e := Read(s)
					if e == api.OK && Print(v) != s || e != api.OK && (e != api.ErrForm || v != api.Value{}) {
						t.Fatalf("%q: %v %v", s, v, e)
					}
				}
			}
		}
	}
}
