// Package schema is layer 2: attributes and their kinds, and events. See shared/doc/02-schema.md.
package schema

import (
	"cmp"
	"slices"

	"trommel/api"
	"trommel/value"
)

// Schema is the attributes that there are; it never changes.
type Schema struct {
	attrs []api.Attr // by rising names
}

// Name tells whether a text is a name.
func Name(s string) bool {
	if len(s) < 1 || len(s) > api.MaxName || !letter(s[0]) {
		return false
	}
	for i := range len(s) {
		if !letter(s[i]) && !digit(s[i]) && s[i] != '_' {
			return false
		}
	}
	return true
}

// New is the schema of attributes.
func New(attrs ...api.Attr) (*Schema, api.Errno) {
	if len(attrs) > api.MaxAttrs {
		return nil, api.ErrRange
	}
	if !all(attrs, attrInForm) {
		return nil, api.ErrForm
	}
	sorted, ok := rising(attrs, attrName)
	if !ok {
		return nil, api.ErrForm
	}
	return &Schema{attrs: sorted}, api.OK
}

// Kind is the kind of the attribute of a name; 0, if there is none.
func (s *Schema) Kind(name string) int {
	for _, a := range s.attrs {
		if a.Name == name {
			return a.Kind
		}
	}
	return 0
}

// Attrs are all attributes, by rising names.
func (s *Schema) Attrs() []api.Attr { return slices.Clone(s.attrs) }

// Len is how many there are.
func (s *Schema) Len() int { return len(s.attrs) }

// Event is the event of pairs.
func (s *Schema) Event(pairs ...api.Pair) ([]api.Pair, api.Errno) {
	if !all(pairs, s.fits) {
		return nil, api.ErrKind
	}
	event, ok := rising(pairs, pairName)
	if !ok {
		return nil, api.ErrKind
	}
	return event, api.OK
}

// Get is the value of the first pair of a name.
func Get(event []api.Pair, name string) (api.Value, bool) {
	for _, p := range event {
		if p.Name == name {
			return p.Value, true
		}
	}
	return api.Value{}, false
}

// fits tells whether a pair's value is one that its attribute may have.
func (s *Schema) fits(p api.Pair) bool {
	asked := api.Attr{Name: p.Name, Kind: p.Kind}
	return value.Check(p.Value) == api.OK && slices.Contains(s.attrs, asked)
}

func letter(c byte) bool { return c >= 'a' && c <= 'z' }

func digit(c byte) bool { return c >= '0' && c <= '9' }

func attrInForm(a api.Attr) bool {
	return Name(a.Name) && (a.Kind == api.KindInt || a.Kind == api.KindWord)
}

func attrName(a api.Attr) string { return a.Name }

func pairName(p api.Pair) string { return p.Name }

// all tells whether each item is good.
func all[T any](items []T, good func(T) bool) bool {
	for _, item := range items {
		if !good(item) {
			return false
		}
	}
	return true
}

// rising is a new list of the items by rising names; false, if a name stands
// twice.
func rising[T any](items []T, name func(T) string) ([]T, bool) {
	sorted := slices.Clone(items)
	slices.SortFunc(sorted, func(a, b T) int { return cmp.Compare(name(a), name(b)) })
	for i := 1; i < len(sorted); i++ {
		if name(sorted[i-1]) == name(sorted[i]) {
			return nil, false
		}
	}
	return sorted, true
}
