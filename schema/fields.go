package schema

import (
	"iter"
	"slices"

	"moult/api"
)

// fields are a schema's, in their order.
func fields(s api.Schema) iter.Seq[api.Field] { return slices.Values(s.Fields) }

// pairs are a schema's fields by two, each with each that stands behind it.
func pairs(s api.Schema) iter.Seq2[api.Field, api.Field] {
	return func(yield func(api.Field, api.Field) bool) {
		for i, a := range s.Fields {
			for _, b := range s.Fields[i+1:] {
				if !yield(a, b) {
					return
				}
			}
		}
	}
}

// filled are a schema's fields, each with its value in a row of as many.
func filled(s api.Schema, l []api.Value) iter.Seq2[api.Field, api.Value] {
	return func(yield func(api.Field, api.Value) bool) {
		for i, f := range s.Fields {
			if !yield(f, l[i]) {
				return
			}
		}
	}
}

// fields are those that come next, so many of them, but none from the first one on that can't be read.
func (in *input) fields(many int) iter.Seq[api.Field] {
	return func(yield func(api.Field) bool) {
		for range many {
			f := in.field()
			if in.bad || !yield(f) {
				return
			}
		}
	}
}
