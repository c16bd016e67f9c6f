// Package value: values of six kinds: layer 1: see shared/doc/01-value.md.
package value

import (
	"cmp"
	"math"
	"strconv"
	"strings"

	"moult/api"
)

const (
	no        = "no"
	yes       = "yes"
	hexDigits = "0123456789abcdef"
)

// longest is the length of a Text's form when all its bytes are escaped: no form is longer.
const longest = len(`""`) + len(`\x00`)*api.MaxText

func Right(v api.Value) bool {
	most := api.MaxText
	switch v.Kind {
	case api.Bool:
		return (v.N == 0 || v.N == 1) && v.S == ""
	case api.Int16:
		return math.MinInt16 <= v.N && v.N <= math.MaxInt16 && v.S == ""
	case api.Int32:
		return math.MinInt32 <= v.N && v.N <= math.MaxInt32 && v.S == ""
	case api.Int64:
		return v.S == ""
	case api.Word:
		most = api.MaxWord
		fallthrough
	case api.Text:
		return v.N == 0 && len(v.S) <= most
	}
	return false
}

// Zero is a kind's least telling value.
func Zero(kind int) (api.Value, bool) {
	// N 0 and an empty S suit every kind, so only a kind that there is not makes this wrong.
	v := api.Value{Kind: kind}
	if !Right(v) {
		return api.Value{}, false
	}
	return v, true
}

func Compare(a, b api.Value) int {
	return cmp.Or(cmp.Compare(a.Kind, b.Kind), cmp.Compare(a.N, b.N), strings.Compare(a.S, b.S))
}

// Print writes a value, Read reads one.
func Print(v api.Value) string {
	if !Right(v) {
		return ""
	}
	mark := byte('"')
	switch v.Kind {
	case api.Bool:
		if v.N == 0 {
			return no
		}
		return yes
	case api.Int16:
		return strconv.Itoa(v.N) + "s"
	case api.Int32:
		return strconv.Itoa(v.N) + "i"
	case api.Int64:
		return strconv.Itoa(v.N)
	case api.Word:
		mark = '\''
		fallthrough
	case api.Text:
		return quote(v.S, mark)
	}
	return ""
}

func Read(s string) (api.Value, api.Errno) {
	// A guess may be too kind to s; that Print answers s again makes Read its inverse.
	v := guess(s)
	if !Right(v) || Print(v) != s {
		return api.Value{}, api.ErrForm
	}
	return v, api.OK
}

func quote(s string, mark byte) string {
	out := []byte{mark}
	for i := range len(s) {
		c := s[i]
		switch {
		case c == mark || c == '\\':
			out = append(out, '\\')
			fallthrough
		case ' ' <= c && c <= '~':
			out = append(out, c)
		default:
			out = append(out, '\\', 'x', hexDigits[c>>4], hexDigits[c&15])
		}
	}
	return string(append(out, mark))
}

// guess is the only value whose form s can be, or one that is not valid.
func guess(s string) api.Value {
	if s == "" || len(s) > longest {
		return api.Value{}
	}
	switch s {
	case no:
		return api.Value{Kind: api.Bool, N: 0}
	case yes:
		return api.Value{Kind: api.Bool, N: 1}
	}
	switch body, last := s[:len(s)-1], s[len(s)-1]; last {
	case 's':
		return number(api.Int16, body)
	case 'i':
		return number(api.Int32, body)
	case '\'':
		return text(api.Word, body)
	case '"':
		return text(api.Text, body)
	}
	return number(api.Int64, s)
}

func number(kind int, s string) api.Value {
	n, err := strconv.Atoi(s)
	if err != nil {
		return api.Value{}
	}
	return api.Value{Kind: kind, N: n}
}

// text takes the form without its last mark; what the first byte is, Read holds against Print.
func text(kind int, s string) api.Value {
	if s == "" {
		return api.Value{}
	}
	return api.Value{Kind: kind, S: unquote(s[1:])}
}

func unquote(s string) string {
	var out []byte
	for i := 0; i < len(s); i++ {
		c := s[i]
		if c == '\\' && i+1 < len(s) {
			i++
			c = s[i]
			if c == 'x' && i+2 < len(s) {
				// Digits that are none leave a 0 here, whose form is another one.
				n, _ := strconv.ParseUint(s[i+1:i+3], 16, 8)
				c = byte(n)
				i += 2
			}
		}
		out = append(out, c)
	}
	return string(out)
}
