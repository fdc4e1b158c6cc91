package record_test

import (
	"bytes"
	"encoding/hex"
	"hash/crc32"
	"math"
	"math/rand/v2"
	"slices"
	"strings"
	"testing"

	"trommel/api"
	"trommel/book"
	"trommel/record"
	"trommel/schema"
)

// P17.1: the chapter's examples, and these bytes whole.
func TestExamples(t *testing.T) {
	if got := record.Sum([]byte("123456789")); got != 0xcbf43926 {
		t.Errorf("Sum = %x", got)
	}
	for next, want := range map[int]string{1: "48 01 ", 128: "48 80 01 "} {
		got, e := record.Head(next)
		if e != api.OK || !strings.HasPrefix(spaced(got), want) || len(got) != len(want)/3+4 || !bytes.Equal(got, headOf(next)) {
			t.Errorf("Head(%d) = % x, %d", next, got, e)
		}
	}
	for c, want := range map[api.Change]string{subbed(1, "a {1}"): "43 07 01 01 61 20 7b 31 7d ", unsubbed(300): "43 03 03 ac 02 "} {
		got, e := record.Encode(c)
		if e != api.OK || !strings.HasPrefix(spaced(got), want) || len(got) != len(want)/3+4 || !bytes.Equal(got, recordOf(c)) {
			t.Errorf("Encode(%v) = % x, %d", c, got, e)
		}
	}
	torn(t, []byte{0x43, 3, 3, 0xac, 2})
	for _, c := range []api.Change{{Kind: api.Unsub, ID: 1, Text: "x"}, {Kind: api.Match, ID: 1}, {Kind: api.Sub, ID: 0, Text: "x"}} {
		if got, e := record.Encode(c); e != api.ErrForm || len(got) != 0 || record.May(c) {
			t.Errorf("Encode(%v) = % x, %d", c, got, e)
		}
	}
}

// P17.1: whole bytes, with sums that another program worked out.
func TestKnownBytes(t *testing.T) {
	if got, e := record.Head(1); hex.EncodeToString(got) != "480164e77e0e" || e != api.OK {
		t.Errorf("Head(1) = %x, %d", got, e)
	}
	if got, e := record.Encode(unsubbed(1)); hex.EncodeToString(got) != "43020301f49f4bf7" || e != api.OK {
		t.Errorf("Encode = %x, %d", got, e)
	}
}

func spaced(b []byte) string {
	var s strings.Builder
	for _, c := range b {
		s.WriteString(hex.EncodeToString([]byte{c}) + " ")
	}
	return s.String()
}

// slowly is the sum as the chapter tells it: a row of 32 bits, the lowest first.
func slowly(b []byte) uint32 {
	var row [32]bool
	for i := range row {
		row[i] = true
	}
	for _, c := range b {
		for i := range 8 {
			row[i] = row[i] != (c>>i&1 == 1)
		}
		for range 8 {
			out := row[0]
			copy(row[:], row[1:])
			row[31] = false
			for i := range row {
				row[i] = row[i] != (out && uint32(0xEDB88320)>>i&1 == 1)
			}
		}
	}
	sum := uint32(0)
	for i := range row {
		if !row[i] {
			sum |= 1 << i
		}
	}
	return sum
}

// P17.1: the sum of no bytes, of no parts, of each byte alone, of rows of bytes.
func TestSum(t *testing.T) {
	for _, parts := range [][][]byte{nil, {}, {nil}, {{}}, {nil, {}, nil}} {
		if got := record.Sum(parts...); got != 0 {
			t.Errorf("Sum(%v) = %x", parts, got)
		}
	}
	for c := range 256 {
		for _, b := range [][]byte{{byte(c)}, {0, byte(c)}, {byte(c), 0}, {0xff, 0xff, 0xff, 0xff, byte(c)}, bytes.Repeat([]byte{byte(c)}, 9)} {
			if got := record.Sum(b); got != slowly(b) || got != crc32.ChecksumIEEE(b) {
				t.Fatalf("Sum(% x) = %x", b, got)
			}
		}
	}
	chance := rand.New(rand.NewPCG(17, 1))
	for range 200 {
		b := []byte(someText(chance))
		if got := record.Sum(b); got != slowly(b) || got != crc32.ChecksumIEEE(b) {
			t.Fatalf("Sum(% x) = %x", b, got)
		}
	}
	great := bytes.Repeat([]byte("trommel\x00\xff"), 30_000)
	if got := record.Sum(great); got != crc32.ChecksumIEEE(great) {
		t.Errorf("Sum of %d bytes = %x", len(great), got)
	}
}

// P17.1: cut anywhere, into any number of parts, bytes have one sum.
func TestSumOfParts(t *testing.T) {
	b := []byte("123456789\x00\xff\x80a {1}")
	want := crc32.ChecksumIEEE(b)
	for i := range len(b) + 1 {
		for j := i; j <= len(b); j++ {
			for _, parts := range [][][]byte{{b[:i], b[i:]}, {b[:i], b[i:j], b[j:]}, {nil, b[:i], {}, b[i:j], nil, nil, b[j:], {}}} {
				if got := record.Sum(parts...); got != want {
					t.Fatalf("Sum(%q) = %x, not %x", parts, got, want)
				}
			}
		}
	}
	var single [][]byte
	for i := range b {
		single = append(single, b[i:i+1])
	}
	if got := record.Sum(single...); got != want {
		t.Errorf("Sum of single bytes = %x", got)
	}
	slices.Reverse(single)
	if got := record.Sum(single...); got == want {
		t.Error("the order of the parts plays no part")
	}
}

// changes are those of all kinds, numbers and texts at the edges, wrong ones too.
func changes() []api.Change {
	kinds := []int{api.Sub, api.Replace, api.Unsub, api.Match, 0, 5, 6, 7, -1, -3, 255, 256, 257, 258, 259, 1<<32 + 1, 1<<32 + 3, math.MaxInt, math.MinInt, math.MinInt + 1}
	ids := []int{1, 2, 127, 128, 16383, 16384, api.MaxID - 1, api.MaxID, 0, -1, -2, api.MaxID + 1, api.MaxID + 2, 2 * api.MaxID, math.MaxInt, math.MinInt, math.MinInt + 1}
	texts := []string{"", "a", "\x00", " ", "a {1}", long(118), long(119), long(120), long(api.MaxText - 1), long(api.MaxText), long(api.MaxText + 1), long(2 * api.MaxText)}
	var all []api.Change
	for _, kind := range kinds {
		for _, id := range ids {
			for _, text := range texts {
				all = append(all, api.Change{Kind: kind, ID: id, Text: text})
			}
		}
	}
	return all
}

// P17.1: which changes may be, and that Encode takes just these.
func TestMay(t *testing.T) {
	for _, c := range changes() {
		want := mayBe(c)
		if got := record.May(c); got != want {
			t.Fatalf("May(%d, %d, %d bytes) = %v", c.Kind, c.ID, len(c.Text), got)
		}
		got, e := record.Encode(c)
		if !want && (e != api.ErrForm || len(got) != 0) || want && (e != api.OK || !bytes.Equal(got, recordOf(c))) {
			t.Fatalf("Encode(%d, %d, %d bytes) = % x, %d", c.Kind, c.ID, len(c.Text), got, e)
		}
	}
	for _, c := range []struct {
		change api.Change
		want   bool
	}{
		{subbed(1, long(api.MaxText)), true}, {subbed(1, long(api.MaxText+1)), false}, {replaced(1, long(api.MaxText)), true}, {replaced(1, long(api.MaxText+1)), false}, {unsubbed(1), true}, {api.Change{Kind: api.Unsub, ID: 1, Text: " "}, false},
		{subbed(0, "a {1}"), false}, {subbed(api.MaxID, "a {1}"), true}, {subbed(api.MaxID+1, "a {1}"), false}, {unsubbed(0), false}, {unsubbed(api.MaxID), true}, {unsubbed(api.MaxID + 1), false}, {subbed(1, ""), true}, {replaced(1, ""), true}, {api.Change{}, false}, {api.Change{Kind: api.Match, ID: 1}, false},
	} {
		if got := record.May(c.change); got != c.want {
			t.Errorf("May(%v) = %v", c.change, got)
		}
	}
}

// P17.1: a change may be just if a registry, in which it could be done, doesn't say that it isn't in form.
func TestMayIsTheBooks(t *testing.T) {
	s, e := schema.New(api.Attr{Name: "a", Kind: api.KindInt})
	if e != api.OK {
		t.Fatal(e)
	}
	for _, c := range changes() {
		b := book.New(api.Limits{Depth: api.MaxDepth, Conj: api.MaxConj, Subs: api.MaxSubs, Total: api.MaxTotal}, s)
		if got, want := record.May(c), b.Apply(c) != api.ErrForm; got != want {
			t.Fatalf("May(%d, %d, %d bytes) = %v", c.Kind, c.ID, len(c.Text), got)
		}
	}
}

// P17.1: heads of all numbers at the edges.
func TestHead(t *testing.T) {
	for _, next := range []int{1, 2, 127, 128, 129, 16383, 16384, 1<<21 - 1, 1 << 21, 1<<28 - 1, 1 << 28, 1 << 32, 1<<35 - 1, 1 << 35, api.MaxID - 1, api.MaxID, api.MaxID + 1} {
		got, e := record.Head(next)
		if !bytes.Equal(got, headOf(next)) || e != api.OK {
			t.Errorf("Head(%d) = % x, %d", next, got, e)
		}
		found(t, got, next, len(got))
	}
	for _, next := range []int{0, -1, -128, math.MinInt, api.MaxID + 2, 2 * api.MaxID, math.MaxInt} {
		if got, e := record.Head(next); len(got) != 0 || e != api.ErrRange {
			t.Errorf("Head(%d) = % x, %d", next, got, e)
		}
	}
	for next, want := range map[int]int{127: 6, 128: 7, 16383: 7, 16384: 8, api.MaxID: 11, api.MaxID + 1: 11} {
		if got, _ := record.Head(next); len(got) != want {
			t.Errorf("Head(%d) = % x", next, got)
		}
	}
}

// P17.1: varints in records: of numbers, and of lengths.
func TestVarints(t *testing.T) {
	for id, want := range map[int]string{1: "01", 127: "7f", 128: "8001", 16383: "ff7f", 16384: "808001", api.MaxID - 1: "ffffffffff1f", api.MaxID: "808080808020"} {
		got, e := record.Encode(unsubbed(id))
		if e != api.OK || hex.EncodeToString(got[3:len(got)-4]) != want || int(got[1]) != len(got)-6 {
			t.Errorf("Encode of %d = % x, %d", id, got, e)
		}
		taken(t, got, unsubbed(id), len(got))
	}
	for length, want := range map[int]string{2: "02", 126: "7e", 127: "7f", 128: "8001", 129: "8101", 255: "ff01", 256: "8002", 4098: "8220"} {
		c := subbed(1, long(length-2))
		got, e := record.Encode(c)
		if e != api.OK || !strings.HasPrefix(hex.EncodeToString(got), "43"+want+"0101") || len(got) != 1+len(want)/2+length+4 {
			t.Errorf("Encode of a body of %d bytes = % x, %d", length, got, e)
		}
		taken(t, got, c, len(got))
	}
	greatest := replaced(api.MaxID, long(api.MaxText))
	got, e := record.Encode(greatest)
	if e != api.OK || len(got) != 1+2+1+6+api.MaxText+4 {
		t.Errorf("the greatest record has %d bytes, %d", len(got), e)
	}
	taken(t, got, greatest, len(got))
}

// P17.1: records of no changes, of several, and of a row of which one may not be, wherever it stands.
func TestEncode(t *testing.T) {
	for _, none := range [][]api.Change{nil, {}} {
		if got, e := record.Encode(none...); len(got) != 0 || e != api.OK {
			t.Errorf("Encode() = % x, %d", got, e)
		}
	}
	row := several()
	for cut := range len(row) + 1 {
		if got, e := record.Encode(row[:cut]...); !bytes.Equal(got, recordsOf(row[:cut]...)) || e != api.OK {
			t.Fatalf("Encode(%v) = % x, %d", row[:cut], got, e)
		}
		for _, wrong := range []api.Change{{}, {Kind: api.Unsub, ID: 1, Text: "x"}, {Kind: api.Match, ID: 1}, subbed(0, "x"), subbed(api.MaxID+1, "x"), replaced(1, long(api.MaxText+1)), {Kind: 257, ID: 1}} {
			if got, e := record.Encode(slices.Insert(slices.Clone(row), cut, wrong)...); len(got) != 0 || e != api.ErrForm {
				t.Fatalf("Encode with %v at %d = % x, %d", wrong, cut, got, e)
			}
		}
	}
	if got, e := record.Encode(row[0], row[0], row[0]); !bytes.Equal(got, bytes.Repeat(recordOf(row[0]), 3)) || e != api.OK {
		t.Errorf("Encode of one three times = % x, %d", got, e)
	}
}
