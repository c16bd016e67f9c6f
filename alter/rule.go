package alter

import (
	"moult/api"
	"moult/lattice"
	"moult/schema"
	"moult/value"
)

// From a schema with one of these no greater one can be made.
const (
	lastVersion = 1000000
	lastNext    = 1000
)

// Check tells whether an alteration may be, Next does it.
func Check(s api.Schema, a api.Alter) api.Errno {
	if !schema.Right(s) {
		return api.ErrArg
	}
	if e := rule(s, a); e != api.OK {
		return e
	}
	if s.Version == lastVersion {
		return api.ErrRule
	}
	return api.OK
}

// rule is what each alteration asks of a schema that is valid, whatever its version.
func rule(s api.Schema, a api.Alter) api.Errno {
	switch a.Op {
	case api.AddField:
		return mayAdd(s, a)
	case api.DropField:
		return mayDrop(s, a)
	case api.RenameField:
		return mayRename(s, a)
	case api.WidenField:
		return mayWiden(s, a)
	}
	return api.ErrArg
}

func mayAdd(s api.Schema, a api.Alter) api.Errno {
	if e := mayBeName(s, a.Name); e != api.OK {
		return e
	}
	switch {
	case len(s.Fields) == api.MaxFields || s.Next == lastNext:
		return api.ErrMany
	case a.Default.Kind != a.Kind || !value.Right(a.Default):
		return api.ErrKind
	}
	return api.OK
}

func mayDrop(s api.Schema, a api.Alter) api.Errno {
	switch {
	case !hasField(s, a.Name):
		return api.ErrNone
	case len(s.Fields) == 1:
		return api.ErrRule
	}
	return api.OK
}

func mayRename(s api.Schema, a api.Alter) api.Errno {
	if !hasField(s, a.Name) {
		return api.ErrNone
	}
	return mayBeName(s, a.To)
}

func mayWiden(s api.Schema, a api.Alter) api.Errno {
	f, ok := schema.Find(s, a.Name)
	switch {
	case !ok:
		return api.ErrNone
	case f.Kind == a.Kind || !lattice.Below(f.Kind, a.Kind):
		return api.ErrKind
	}
	return api.OK
}

// mayBeName tells whether a field of the schema may get this name.
func mayBeName(s api.Schema, name string) api.Errno {
	switch {
	case !schema.Name(name):
		return api.ErrName
	case hasField(s, name):
		return api.ErrThere
	}
	return api.OK
}

func hasField(s api.Schema, name string) bool {
	_, ok := schema.Find(s, name)
	return ok
}
