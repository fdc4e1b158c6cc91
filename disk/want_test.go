package disk_test

import (
	"math/rand/v2"
	"slices"
	"strings"
	"testing"

	"trommel/api"
	"trommel/disk"
)

// sheet is a file as the chapter tells it.
type sheet struct{ name, lasting, loose string }

// shelf is a disk as the chapter tells it.
type shelf struct {
	sheets []sheet // in the order in which they came
	off    bool
	acts   int
	// Of the last Arm: what it was handed, and how many acts without an error
	// of their own were called since.
	armed          bool
	n, part, since int
}

// isName tells whether a text is a name.
func isName(s string) bool {
	if s == "" || len(s) > api.MaxName || s[0] < 'a' || s[0] > 'z' {
		return false
	}
	for _, c := range []byte(s) {
		if strings.IndexByte("abcdefghijklmnopqrstuvwxyz0123456789_", c) < 0 {
			return false
		}
	}
	return true
}

func (s *shelf) place(name string) int {
	return slices.IndexFunc(s.sheets, func(f sheet) bool { return f.name == name })
}

// wrong is the error of a call with names; must is the file that must be there, or none.
func (s *shelf) wrong(must string, names ...string) api.Errno {
	switch {
	case s.off:
		return api.ErrDown
	case slices.ContainsFunc(names, func(name string) bool { return !isName(name) }):
		return api.ErrForm
	case must != "" && s.place(must) < 0:
		return api.ErrFile
	}
	return api.OK
}

// goes tells whether the power goes at an act that has no error of its own.
func (s *shelf) goes() bool {
	s.since++
	if s.armed && s.since == s.n {
		s.off = true
		return true
	}
	s.acts++
	return false
}

func (s *shelf) append(name string, data string) api.Errno {
	if e := s.wrong("", name); e != api.OK {
		return e
	}
	e := api.OK
	if s.goes() {
		e = api.ErrDown
		switch {
		case s.part < 0:
			data = ""
		case s.part < len(data):
			data = data[:s.part]
		}
	}
	if s.place(name) < 0 {
		s.sheets = append(s.sheets, sheet{name: name})
	}
	s.sheets[s.place(name)].loose += data
	return e
}

func (s *shelf) sync(name string) api.Errno {
	e := s.wrong(name, name)
	if e == api.OK && s.goes() {
		e = api.ErrDown
	}
	if e == api.OK {
		f := &s.sheets[s.place(name)]
		f.lasting, f.loose = f.lasting+f.loose, ""
	}
	return e
}

func (s *shelf) rename(from, to string) api.Errno {
	e := s.wrong(from, from, to)
	if e == api.OK && s.goes() {
		e = api.ErrDown
	}
	if e == api.OK && from != to {
		s.sheets = slices.DeleteFunc(s.sheets, func(f sheet) bool { return f.name == to })
		s.sheets[s.place(from)].name = to
	}
	return e
}

func (s *shelf) remove(name string) api.Errno {
	e := s.wrong(name, name)
	if e == api.OK && s.goes() {
		e = api.ErrDown
	}
	if e == api.OK {
		s.sheets = slices.DeleteFunc(s.sheets, func(f sheet) bool { return f.name == name })
	}
	return e
}

func (s *shelf) arm(n, part int) api.Errno {
	if s.off {
		return api.ErrDown
	}
	s.armed, s.n, s.part, s.since = n >= 1, n, part, 0
	return api.OK
}

func (s *shelf) read(name string) (string, int, api.Errno) {
	if e := s.wrong(name, name); e != api.OK {
		return "", 0, e
	}
	f := s.sheets[s.place(name)]
	return f.lasting + f.loose, len(f.loose), api.OK
}

// names are those of all files, rising.
func (s *shelf) names() []string {
	var names []string
	for _, f := range s.sheets {
		names = append(names, f.name)
	}
	slices.Sort(names)
	return names
}

func (s *shelf) crash(choices ...int) *shelf {
	s.off = true
	found := &shelf{}
	for _, name := range s.names() {
		f := s.sheets[s.place(name)]
		choice := 0
		if len(choices) > 0 {
			choice, choices = choices[0], choices[1:]
		}
		// Whichever of the numbers differs from the choice by a multiple.
		for kept := range len(f.loose) + 1 {
			if (choice%(len(f.loose)+1)-kept)%(len(f.loose)+1) == 0 {
				found.sheets = append(found.sheets, sheet{name: name, lasting: f.lasting + f.loose[:kept]})
			}
		}
	}
	return found
}

// pair is a disk and a shelf to which the same is done.
type pair struct {
	t *testing.T
	d *disk.Disk
	s *shelf
}

func newPair(t *testing.T) *pair {
	t.Helper()
	p := &pair{t, disk.New(), &shelf{}}
	p.hold()
	return p
}

// wrongNames are texts that are no names; goodNames some that are.
func wrongNames() []string {
	return []string{"", "A", "B", "9", "_a", "1a", "aB", "a-b", "a b", " a", "a ", "a.", "a/b", "é", "aé", "\x00", "a\x00", "a\xff", strings.Repeat("a", api.MaxName+1), strings.Repeat("a", 1000)}
}

func goodNames() []string {
	return []string{"a", "b", "c", "ab", "a_", "a0", "z9_", "journal", "fresh", strings.Repeat("a", api.MaxName), strings.Repeat("z", api.MaxName)}
}

// hold holds that the disk tells what the shelf does.
func (p *pair) hold() {
	p.t.Helper()
	if p.d.Off() != p.s.off || p.d.Acts() != p.s.acts {
		p.t.Fatalf("Off %v, Acts %d; not %v, %d", p.d.Off(), p.d.Acts(), p.s.off, p.s.acts)
	}
	var names []string
	if !p.s.off {
		names = p.s.names()
	}
	if got := p.d.Names(); !slices.Equal(got, names) {
		p.t.Fatalf("Names = %q, not %q", got, names)
	}
	for _, name := range slices.Concat(goodNames(), wrongNames(), p.s.names()) {
		b, e := p.d.Read(name)
		loose := p.d.Loose(name)
		if wantB, wantLoose, wantE := p.s.read(name); string(b) != wantB || loose != wantLoose || e != wantE {
			p.t.Fatalf("%q: Read = % x, %d, Loose %d; not % x, %d, %d", name, b, e, loose, wantB, wantE, wantLoose)
		}
	}
}

// answered holds an answer, and then the whole.
func (p *pair) answered(call string, got, want api.Errno) api.Errno {
	p.t.Helper()
	if got != want {
		p.t.Fatalf("%s = %d, not %d", call, got, want)
	}
	p.hold()
	return got
}

func (p *pair) append(name string, data ...byte) api.Errno {
	p.t.Helper()
	return p.answered("Append("+name+")", p.d.Append(name, data...), p.s.append(name, string(data)))
}

func (p *pair) sync(name string) api.Errno {
	p.t.Helper()
	return p.answered("Sync("+name+")", p.d.Sync(name), p.s.sync(name))
}

func (p *pair) rename(from, to string) api.Errno {
	p.t.Helper()
	return p.answered("Rename("+from+", "+to+")", p.d.Rename(from, to), p.s.rename(from, to))
}

func (p *pair) remove(name string) api.Errno {
	p.t.Helper()
	return p.answered("Remove("+name+")", p.d.Remove(name), p.s.remove(name))
}

func (p *pair) arm(n, part int) api.Errno {
	p.t.Helper()
	return p.answered("Arm", p.d.Arm(n, part), p.s.arm(n, part))
}

// crash is the pair that is found; this one is off from now on.
func (p *pair) crash(choices ...int) *pair {
	p.t.Helper()
	found := &pair{p.t, p.d.Crash(choices...), p.s.crash(choices...)}
	p.hold()
	found.hold()
	return found
}

// want holds an answer that the test tells itself.
func (p *pair) want(got, want api.Errno) {
	p.t.Helper()
	if got != want {
		p.t.Fatalf("answered is %d, not %d", got, want)
	}
}

// ok holds that all were OK.
func (p *pair) ok(answers ...api.Errno) {
	p.t.Helper()
	for i, got := range answers {
		if got != api.OK {
			p.t.Fatalf("answer %d is %d", i, got)
		}
	}
}

// has holds what the test tells itself of a file: its bytes, and how many of them are loose.
func (p *pair) has(name string, loose int, want ...byte) {
	p.t.Helper()
	if b, e := p.d.Read(name); !slices.Equal(b, want) || e != api.OK || p.d.Loose(name) != loose {
		p.t.Fatalf("%s: % x, %d, Loose %d; not % x and %d", name, b, e, p.d.Loose(name), want, loose)
	}
}

// named holds which files there are.
func (p *pair) named(want ...string) {
	p.t.Helper()
	if got := p.d.Names(); !slices.Equal(got, want) {
		p.t.Fatalf("Names = %q, not %q", got, want)
	}
}

// counted holds how many acts were done, and whether the disk is off.
func (p *pair) counted(acts int, off bool) {
	p.t.Helper()
	if p.d.Acts() != acts || p.d.Off() != off {
		p.t.Fatalf("Acts %d, Off %v; not %d, %v", p.d.Acts(), p.d.Off(), acts, off)
	}
}

// all does each of the acts with a name, and tells what they answered.
func (p *pair) all(name string) []api.Errno {
	p.t.Helper()
	return []api.Errno{p.append(name, 1, 2), p.append(name), p.sync(name), p.rename(name, "b"), p.rename("a", name), p.rename(name, name), p.remove(name)}
}

// someName is mostly one of a few names.
func someName(chance *rand.Rand) string {
	switch chance.IntN(12) {
	case 0:
		return goodNames()[chance.IntN(len(goodNames()))]
	case 1:
		return wrongNames()[chance.IntN(len(wrongNames()))]
	}
	return []string{"a", "b", "ab", "journal"}[chance.IntN(4)]
}

func someBytes(chance *rand.Rand) []byte {
	b := make([]byte, chance.IntN(5))
	for i := range b {
		b[i] = byte(chance.IntN(256))
	}
	return b
}

// someAct does one.
func (p *pair) someAct(chance *rand.Rand) {
	p.t.Helper()
	switch chance.IntN(8) {
	case 0, 1, 2, 3:
		p.append(someName(chance), someBytes(chance)...)
	case 4, 5:
		p.sync(someName(chance))
	case 6:
		p.rename(someName(chance), someName(chance))
	case 7:
		p.remove(someName(chance))
	}
}
