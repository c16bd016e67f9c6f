package alter

import (
	"math"
	"slices"
	"testing"

	"moult/api"
)

// ask holds Check and Next against what the chapter says of an alteration that may or may not be.
func ask(t *testing.T, s api.Schema, a api.Alter, want api.Errno) {
	t.Helper()
	if e := Check(s, a); e != want {
		t.Errorf("Check(%v, %v): %v, not %v", s, a, e, want)
	}
	next, e := Next(s, a)
	if e != want || e != api.OK && !isNone(next) || e == api.OK && !same(next, nextByWords(s, a)) {
		t.Errorf("Next(%v, %v): %v %v, not %v", s, a, next, e, want)
	}
}

func TestA2Arguments(t *testing.T) {
	good := []api.Alter{add("z", of(api.Bool, 1, "")), drop("a"), rename("a", "z"), widen("a", api.Int64)}
	for _, a := range good {
		ask(t, three(), a, api.OK)
		for _, op := range []int{math.MinInt, -1, 0, 5, 6, 1 << 8, 1<<8 + 1, 1<<32 + 1, math.MaxInt} {
			b := a
			b.Op = op
			ask(t, three(), b, api.ErrArg)
		}
		for _, s := range wrong() {
			ask(t, s, a, api.ErrArg)
		}
	}
	// A fault of the schema counts ahead of what the rule says.
	for _, s := range wrong() {
		for _, a := range []api.Alter{{}, add("A", api.Value{}), drop("none"), rename("none", "A"), widen("none", 9)} {
			ask(t, s, a, api.ErrArg)
		}
	}
	// An alteration has also what its kind doesn't need.
	for _, a := range good {
		if a.Op != api.RenameField {
			a.To = "A"
		}
		if a.Op != api.AddField {
			a.Default = of(9, 9, x(2000))
		}
		if a.Op != api.AddField && a.Op != api.WidenField {
			a.Kind = -1
		}
		ask(t, three(), a, api.OK)
	}
}

func TestA2AddField(t *testing.T) {
	yes := of(api.Bool, 1, "")
	for _, name := range notNames() {
		ask(t, three(), add(name, yes), api.ErrName)
	}
	for _, name := range []string{"z", "a1", "b_", "aa", x(24)} {
		ask(t, three(), add(name, yes), api.OK)
	}
	for _, name := range []string{"a", "b", "c"} {
		ask(t, three(), add(name, yes), api.ErrThere)
	}
	last := changed(func(s *api.Schema) { s.Next = 999 })
	none := changed(func(s *api.Schema) { s.Next = 1000 })
	ask(t, wide(11), add("z", yes), api.OK)
	ask(t, wide(12), add("z", yes), api.ErrMany)
	ask(t, last, add("z", yes), api.OK)
	ask(t, none, add("z", yes), api.ErrMany)
	for _, v := range []api.Value{
		of(api.Bool, 0, ""), of(api.Int16, -32768, ""), of(api.Int32, math.MaxInt32, ""), of(api.Int64, math.MinInt, ""), of(api.Word, 0, x(32)), of(api.Text, 0, x(1000)),
	} {
		ask(t, three(), add("z", v), api.OK)
		for _, kind := range []int{math.MinInt, 0, 1, 2, 3, 4, 5, 6, 7, 1<<32 + v.Kind, math.MaxInt} {
			a := add("z", v)
			if a.Kind = kind; kind != v.Kind {
				ask(t, three(), a, api.ErrKind)
			}
		}
	}
	for _, v := range []api.Value{
		{}, of(7, 0, ""), of(-1, 0, ""), of(math.MaxInt, 0, ""), of(api.Bool, 2, ""), of(api.Bool, 0, "x"), of(api.Int16, 32768, ""), of(api.Int32, -1<<31-1, ""),
		of(api.Int64, 0, "x"), of(api.Word, 1, ""), of(api.Word, 0, x(33)), of(api.Text, 0, x(1001)), of(api.Text, 0, x(1<<16)),
	} {
		ask(t, three(), add("z", v), api.ErrKind)
	}
}

func TestA2DropField(t *testing.T) {
	for _, name := range append(notNames(), "z", "aa", "c1") {
		ask(t, three(), drop(name), api.ErrNone)
		ask(t, example(), drop(name), api.ErrNone)
	}
	ask(t, example(), drop("a"), api.ErrRule)
	ask(t, wide(2), drop("f0"), api.OK)
	ask(t, wide(2), drop("f1"), api.OK)
	ask(t, wide(12), drop("f11"), api.OK)
	ask(t, changed(func(s *api.Schema) { s.Next = 1000 }), drop("b"), api.OK)
}

func TestA2RenameField(t *testing.T) {
	for _, name := range append(notNames(), "z", "aa") {
		for _, to := range []string{"y", "a", "A", "", name} {
			ask(t, three(), rename(name, to), api.ErrNone)
		}
	}
	for _, to := range notNames() {
		ask(t, three(), rename("a", to), api.ErrName)
		ask(t, three(), rename("c", to), api.ErrName)
	}
	for _, name := range []string{"a", "b", "c"} {
		for _, to := range []string{"a", "b", "c"} {
			ask(t, three(), rename(name, to), api.ErrThere)
		}
		ask(t, three(), rename(name, "z"), api.OK)
		ask(t, three(), rename(name, x(24)), api.OK)
	}
	ask(t, wide(12), rename("f0", "f"), api.OK)
	ask(t, example(), rename("a", "b"), api.OK)
	ask(t, changed(func(s *api.Schema) { s.Next = 1000 }), rename("a", "z"), api.OK)
}

func TestA2WidenField(t *testing.T) {
	for _, name := range append(notNames(), "z", "aa") {
		for _, kind := range []int{0, api.Int64, 9} {
			ask(t, three(), widen(name, kind), api.ErrNone)
		}
	}
	kinds := []int{math.MinInt, -1, 0, 1, 2, 3, 4, 5, 6, 7, 1<<32 + 4, math.MaxInt}
	for _, f := range wide(6).Fields {
		for _, kind := range kinds {
			want := api.ErrKind
			if isBelow(f.Kind, kind) && f.Kind != kind {
				want = api.OK
			}
			ask(t, wide(6), widen(f.Name, kind), want)
		}
	}
	ask(t, wide(12), widen("f10", api.Text), api.OK)
	ask(t, example(), widen("a", api.Int32), api.OK)
	ask(t, changed(func(s *api.Schema) { s.Next = 1000 }), widen("a", api.Int16), api.OK)
}

// The last version has no next one, but that is told last.
func TestA2LastVersion(t *testing.T) {
	good := []api.Alter{add("z", of(api.Bool, 1, "")), drop("a"), rename("a", "z"), widen("a", api.Int64)}
	late := changed(func(s *api.Schema) { s.Version = 1000000 })
	for _, a := range good {
		ask(t, changed(func(s *api.Schema) { s.Version = 999999 }), a, api.OK)
		ask(t, late, a, api.ErrRule)
	}
	for _, c := range []struct {
		a api.Alter
		e api.Errno
	}{
		{api.Alter{}, api.ErrArg}, {api.Alter{Op: 5}, api.ErrArg},
		{add("A", of(1, 1, "")), api.ErrName}, {add("a", of(1, 1, "")), api.ErrThere}, {add("z", api.Value{}), api.ErrKind},
		{drop("z"), api.ErrNone}, {rename("z", "y"), api.ErrNone}, {rename("a", "A"), api.ErrName}, {rename("a", "a"), api.ErrThere},
		{widen("z", api.Int64), api.ErrNone}, {widen("a", api.Bool), api.ErrKind},
	} {
		ask(t, late, c.a, c.e)
	}
	late.Next = 1000
	ask(t, late, add("z", of(1, 1, "")), api.ErrMany)
	late.Fields = late.Fields[:1]
	ask(t, late, drop("a"), api.ErrRule)
}

// Of several reasons the first one is told, in the order of the rule.
func TestA5FirstReason(t *testing.T) {
	crowd := wide(12)
	crowd.Next = 1000
	bad := of(9, 0, "")
	name := crowd.Fields[0].Name
	for _, c := range []struct {
		s api.Schema
		a api.Alter
		e api.Errno
	}{
		{crowd, add("A", bad), api.ErrName},
		{crowd, add(name, bad), api.ErrThere},
		{crowd, add("z", bad), api.ErrMany},
		{wide(12), add("z", bad), api.ErrMany},
		{changed(func(s *api.Schema) { s.Next = 1000 }), add("z", bad), api.ErrMany},
		{wide(11), add("z", bad), api.ErrKind},
		{example(), drop("z"), api.ErrNone},
		{crowd, rename("z", "A"), api.ErrNone},
		{crowd, rename("z", name), api.ErrNone},
		{crowd, rename(name, ""), api.ErrName},
		{crowd, rename(name, name), api.ErrThere},
		{crowd, widen("A", 9), api.ErrNone},
	} {
		for _, version := range []int{1, 1000000} {
			s := c.s
			s.Version, s.Fields = version, slices.Clone(c.s.Fields)
			ask(t, s, c.a, c.e)
		}
	}
}
