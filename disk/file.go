package disk

import "slices"

// file is bytes, of which some from the front on last.
type file struct {
	bytes   []byte
	lasting int
}

// loose is how many of the bytes don't last.
func (f *file) loose() int { return len(f.bytes) - f.lasting }

// found is what a crash leaves of the file.
func (f *file) found(choice int) *file {
	kept := f.lasting + modulo(choice, f.loose()+1)
	return &file{bytes: slices.Clone(f.bytes[:kept]), lasting: kept}
}

// modulo is the number from 0 to ahead of m that differs from n by a multiple of m.
func modulo(n, m int) int { return (n%m + m) % m }
