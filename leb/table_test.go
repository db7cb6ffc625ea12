package leb

import (
	"math"
	"math/rand"
	"slices"
	"strings"
	"testing"

	"lodge/api"
)

func span(v, from, to, kind, at int) api.Range {
	return api.Range{Var: v, From: from, To: to, Kind: kind, At: at}
}

// tables has lists that are tables, with the bytes that the document asks for.
var tables = []struct {
	l []api.Range
	s string
}{
	{nil, "\x00"},
	{[]api.Range{}, "\x00"},
	{[]api.Range{span(1, 2, 5, api.InSlot, 300)}, "\x01\x01\x02\x03\x01\xac\x02"},
	{[]api.Range{span(0, 0, 2, api.InReg, 1), span(0, 2, 3, api.InReg, 2)}, "\x02\x00\x00\x02\x00\x01\x00\x02\x01\x00\x02"},
	// Neighbours that touch and differ in Kind alone.
	{[]api.Range{span(0, 0, 2, api.InReg, 1), span(0, 2, 3, api.InSlot, 1)}, "\x02\x00\x00\x02\x00\x01\x00\x02\x01\x01\x01"},
	// Alike, but with a gap; alike and touching, but of two variables.
	{[]api.Range{span(2, 0, 2, api.InReg, 1), span(2, 3, 4, api.InReg, 1)}, "\x02\x02\x00\x02\x00\x01\x02\x03\x01\x00\x01"},
	{[]api.Range{span(2, 0, 2, api.InReg, 1), span(3, 2, 4, api.InReg, 1)}, "\x02\x02\x00\x02\x00\x01\x03\x02\x02\x00\x01"},
	// Two variables may lie over each other, and a later one may begin ahead.
	{[]api.Range{span(0, 5, 9, api.InReg, 1), span(2, 0, 9, api.InReg, 1)}, "\x02\x00\x05\x04\x00\x01\x02\x00\x09\x00\x01"},
	// The bounds of each field.
	{[]api.Range{span(0, 0, 1, api.InReg, 0)}, "\x01\x00\x00\x01\x00\x00"},
	{[]api.Range{span(3, 163, 164, api.IsConst, 65535)}, "\x01\x03\xa3\x01\x01\x02\xff\xff\x03"},
	{[]api.Range{span(3, 0, 164, api.IsConst, 65535)}, "\x01\x03\x00\xa4\x01\x02\xff\xff\x03"},
	{[]api.Range{span(0, 127, 128, api.InSlot, 127), span(0, 128, 130, api.InSlot, 128), span(1, 0, 128, api.InReg, 16384)}, "\x03\x00\x7f\x01\x01\x7f\x00\x80\x01\x02\x01\x80\x01\x01\x00\x80\x01\x00\x80\x80\x01"},
}

// manyRanges has ranges that stand as in a table: of more than 200, their number alone is wrong.
func manyRanges(count int) []api.Range {
	var l []api.Range
	for i := 0; i < count; i++ {
		l = append(l, span(i/80, 2*(i%80), 2*(i%80)+1+i%2, i%3, i*300%65536))
	}
	return l
}

func wantNoTable(t *testing.T, l []api.Range) {
	t.Helper()
	s, err := Encode(l)
	if s != "" || err != api.ErrTable {
		t.Errorf("Encode(%v) = %x, %d; want nothing, ErrTable", l, s, err)
	}
}

func wantNoBytes(t *testing.T, s string) {
	t.Helper()
	l, err := Decode(s)
	if len(l) != 0 || err != api.ErrBytes {
		t.Errorf("Decode(%.40x) = %v, %d; want nothing, ErrBytes", s, l, err)
	}
}

// wantHonest: Decode answers ErrBytes, or a table that Encode writes as s.
func wantHonest(t *testing.T, s string) {
	t.Helper()
	l, err := Decode(s)
	if err != api.OK {
		if len(l) != 0 || err != api.ErrBytes {
			t.Errorf("Decode(%.40x) = %v, %d", s, l, err)
		}
		return
	}
	back, err := Encode(l)
	if back != s || err != api.OK {
		t.Errorf("Decode(%.40x) = %v, which Encode writes as %.40x, %d", s, l, back, err)
	}
}

func TestP4Tables(t *testing.T) {
	for _, c := range tables {
		s, err := Encode(c.l)
		if s != c.s || err != api.OK {
			t.Errorf("Encode(%v) = %x, %d; want %x, OK", c.l, s, err, c.s)
		}
		l, err := Decode(c.s)
		if !slices.Equal(l, c.l) || err != api.OK {
			t.Errorf("Decode(%x) = %v, %d; want %v, OK", c.s, l, err, c.l)
		}
	}
}

func TestP1P4FieldsOutOfBounds(t *testing.T) {
	for _, r := range []api.Range{
		span(-1, 0, 1, 0, 0), span(4, 0, 1, 0, 0), span(math.MinInt, 0, 1, 0, 0), span(math.MaxInt, 0, 1, 0, 0),
		span(0, -1, 1, 0, 0), span(0, math.MinInt, 1, 0, 0), span(0, math.MinInt, math.MaxInt, 0, 0), span(0, math.MaxInt, math.MinInt, 0, 0),
		span(0, 1, 1, 0, 0), span(0, 2, 1, 0, 0), span(0, 0, 0, 0, 0), span(0, 0, -1, 0, 0), span(0, 164, 164, 0, 0),
		span(0, 0, 165, 0, 0), span(0, 164, 165, 0, 0), span(0, 0, math.MaxInt, 0, 0),
		span(0, 0, 1, -1, 0), span(0, 0, 1, 3, 0), span(0, 0, 1, math.MinInt, 0), span(0, 0, 1, math.MaxInt, 0),
		span(0, 0, 1, 0, -1), span(0, 0, 1, 0, 65536), span(0, 0, 1, api.IsConst, 65536), span(0, 0, 1, 0, math.MinInt), span(0, 0, 1, 0, math.MaxInt),
	} {
		wantNoTable(t, []api.Range{r})
		wantNoTable(t, []api.Range{r, span(3, 10, 20, 0, 0)})
		wantNoTable(t, []api.Range{span(0, 10, 20, 0, 0), r})
	}
}

func TestP1P4OrderAndOverlap(t *testing.T) {
	r := span(1, 2, 5, api.InReg, 3)
	for _, l := range [][]api.Range{
		{r, r},
		{r, span(1, 5, 6, api.InReg, 3)},
		{r, span(1, 4, 6, api.InReg, 2)},
		{r, span(1, 3, 4, api.InSlot, 2)},
		{r, span(1, 2, 3, api.InSlot, 2)},
		{r, span(1, 0, 1, api.InSlot, 2)},
		{r, span(1, 0, 2, api.InSlot, 2)},
		{r, span(1, 0, 164, api.InSlot, 2)},
		{r, span(0, 0, 1, 0, 0)},
		{r, span(0, 7, 8, 0, 0)},
		{r, span(2, 0, 1, 0, 0), span(1, 8, 9, 0, 0)},
		{r, span(1, 6, 7, 0, 0), span(1, 7, 8, 0, 0)},
		{span(0, 0, 1, 0, 0), r, span(1, 4, 9, 0, 0), span(2, 0, 1, 0, 0)},
	} {
		wantNoTable(t, l)
	}
}

func TestP4TwoHundredRanges(t *testing.T) {
	l := manyRanges(201)
	for _, count := range []int{1, 127, 128, 199, 200} {
		s, err := Encode(l[:count])
		m, fault := Decode(s)
		if err != api.OK || fault != api.OK || !slices.Equal(m, l[:count]) {
			t.Errorf("%d ranges: Encode answers %d, Decode %d and %d ranges", count, err, fault, len(m))
		}
		head, _ := Put(count)
		if !strings.HasPrefix(s, head) {
			t.Errorf("%d ranges: the bytes begin with %.4x; want %x", count, s, head)
		}
	}
	wantNoTable(t, l)
	wantNoTable(t, make([]api.Range, 100000))
	// 201 ranges as bytes: those of 200 with another range behind them, and its number at the head.
	s, _ := Encode(l[:200])
	wantNoBytes(t, "\xc9\x01"+s[2:]+"\x02\x50\x01\x00\x00")
}

func TestP1P4BytesThatNoEncodeWrites(t *testing.T) {
	for _, s := range []string{
		"", "\x01", "\x80", "\x80\x00", "\x00\x00", "\x00\x80", "\xff\xff\x7f", "\xff\xff\xff\x01", "\xc8\x01", "\xc9\x01",
		"\x02\x01\x02\x03\x01\xac\x02",
		"\x01\x01\x02\x00\x01\x05",                     // To is From
		"\x01\x04\x02\x03\x01\x05",                     // no Var
		"\x01\x01\x02\x03\x03\x05",                     // no Kind
		"\x01\x00\x00\x01\x00\x80\x80\x04",             // At 65536
		"\x01\x00\x00\xa5\x01\x00\x00",                 // To 165
		"\x01\x00\xa4\x01\x01\x00\x00",                 // To 165, From 164
		"\x01\x00\xff\xff\x7f\xff\xff\x7f\x00\x00",     // From and To as great as can be
		"\x81\x00\x01\x02\x03\x01\x05",                 // a number in too many bytes: how many ranges
		"\x01\x81\x00\x02\x03\x01\x05",                 // Var
		"\x01\x01\x82\x00\x03\x01\x05",                 // From
		"\x01\x01\x02\x83\x00\x01\x05",                 // To
		"\x01\x01\x02\x03\x81\x00\x05",                 // Kind
		"\x01\x01\x02\x03\x01\x85\x00",                 // At
		"\x02\x00\x00\x02\x00\x01\x00\x02\x01\x00\x01", // touch and are alike
		"\x02\x00\x00\x02\x00\x01\x00\x01\x01\x00\x02", // overlap
		"\x02\x00\x02\x01\x00\x01\x00\x00\x01\x00\x02", // falling From
		"\x02\x01\x00\x02\x00\x01\x00\x02\x01\x00\x02", // falling Var
		strings.Repeat("\x00", 100000), strings.Repeat("\x01", 100000), strings.Repeat("\xff", 100000),
	} {
		wantNoBytes(t, s)
	}
}

func TestP1P4BytesCutOffOrTooLong(t *testing.T) {
	all, _ := Encode(manyRanges(200))
	list := []string{all}
	for _, c := range tables {
		list = append(list, c.s)
	}
	for _, s := range list {
		for size := 0; size < len(s); size++ {
			wantNoBytes(t, s[:size])
		}
		for _, behind := range []string{"\x00", "\x01", "\x80", "\xff", "\x00\x00\x01\x00\x00"} {
			wantNoBytes(t, s+behind)
		}
	}
}

// Every other byte, in place of one or between two, at every place of a table's bytes.
func TestP4ChangedBytes(t *testing.T) {
	for _, c := range tables {
		for i := 0; i < len(c.s); i++ {
			for b := 0; b < 256; b++ {
				other := string([]byte{byte(b)})
				wantHonest(t, c.s[:i]+other+c.s[i+1:])
				wantHonest(t, c.s[:i]+other+c.s[i:])
			}
		}
	}
}

func TestP4StrayBytes(t *testing.T) {
	source := rand.New(rand.NewSource(1))
	for round := 0; round < 200000; round++ {
		count := source.Intn(5)
		s := []byte{byte(count)}
		for i := 0; i < 5*count; i++ {
			s = append(s, byte(source.Intn(4)))
		}
		if round%4 == 0 {
			s[source.Intn(len(s))] = byte(source.Intn(256))
		}
		wantHonest(t, string(s))
	}
}

// tableByTheWords says what a table is as the document does, each pair of ranges by itself.
func tableByTheWords(l []api.Range) bool {
	if len(l) > 200 {
		return false
	}
	for i, b := range l {
		if b.Var < 0 || b.Var > 3 || b.From < 0 || b.From >= b.To || b.To > 164 || b.Kind < 0 || b.Kind > 2 || b.At < 0 || b.At > 65535 {
			return false
		}
		for _, a := range l[:i] {
			if a.Var > b.Var {
				return false
			}
			if a.Var < b.Var {
				continue
			}
			if a.From >= b.From || a.To > b.From {
				return false
			}
			if a.To == b.From && a.Kind == b.Kind && a.At == b.At {
				return false
			}
		}
	}
	return true
}

// Lists of small ranges, right and wrong ones: Encode takes just the tables, and Decode gives them back.
func TestP4AgainstTheWords(t *testing.T) {
	source := rand.New(rand.NewSource(2))
	taken := 0
	for round := 0; round < 300000; round++ {
		l := make([]api.Range, source.Intn(5))
		v, from := 0, 0
		for i := range l {
			to := from + source.Intn(3)
			l[i] = span(v, from, to, source.Intn(2), source.Intn(2))
			from = to + source.Intn(5)/2 - source.Intn(6)/5
			if source.Intn(4) == 0 {
				v, from = v+source.Intn(5)-1, source.Intn(2)
			}
		}
		s, err := Encode(l)
		if !tableByTheWords(l) {
			if s != "" || err != api.ErrTable {
				t.Fatalf("Encode(%v) = %x, %d; want nothing, ErrTable", l, s, err)
			}
			continue
		}
		taken++
		m, fault := Decode(s)
		if err != api.OK || fault != api.OK || !slices.Equal(m, l) {
			t.Fatalf("Encode(%v) = %x, %d; Decode gives %v, %d", l, s, err, m, fault)
		}
	}
	if taken < 30000 || taken > 270000 {
		t.Errorf("%d of the lists are tables: too few, or too many, to tell", taken)
	}
}

func TestP2WhatIsHandedInStays(t *testing.T) {
	mark := span(-7, -7, -7, -7, -7)
	lists := [][]api.Range{
		manyRanges(200), manyRanges(201),
		{span(1, 2, 5, 0, 3), span(0, 0, 1, 0, 0)}, // no table: wrong order
		{span(0, 0, 2, 0, 1), span(0, 2, 3, 0, 1)}, // no table: alike
	}
	for _, c := range tables {
		lists = append(lists, c.l)
	}
	for _, l := range lists {
		whole := slices.Clone(l)
		for i := 0; i < 8; i++ {
			whole = append(whole, mark)
		}
		before := slices.Clone(whole)
		first, _ := Encode(whole[:len(l)])
		if !slices.Equal(whole, before) {
			t.Errorf("Encode(%v) changed the list, or the room behind it", l)
		}
		// The list is the caller's again: writing into it changes no later answer.
		for i := range whole {
			whole[i] = mark
		}
		again, _ := Encode(before[:len(l)])
		if first != again {
			t.Errorf("Encode(%v) = %x, later %x", l, first, again)
		}
	}
}

func TestP2WhatComesOutIsTheCallers(t *testing.T) {
	mark := span(-7, -7, -7, -7, -7)
	all, _ := Encode(manyRanges(200))
	list := []string{all}
	for _, c := range tables {
		list = append(list, c.s)
	}
	for _, s := range list {
		kept, _ := Decode(s)
		before := slices.Clone(kept)
		written, _ := Decode(s)
		written = written[:cap(written)]
		for i := range written {
			written[i] = mark
		}
		later, err := Decode(s)
		if !slices.Equal(later, before) || err != api.OK {
			t.Errorf("Decode(%.40x) = %v, %d, once an earlier answer was written full; want %v, OK", s, later, err, before)
		}
		if !slices.Equal(kept, before) {
			t.Errorf("Decode(%.40x): an earlier answer was changed to %v", s, kept)
		}
	}
}

// The same call answers the same, whatever was called between, wrong calls too.
func TestP2AnswersHangOnArgumentsAlone(t *testing.T) {
	for _, c := range tables {
		for _, between := range tables {
			Encode(between.l)
			Decode(between.s + "\x00")
			Decode(between.s)
			Get("\xff", 0)
			Put(-1)
			s, err := Encode(c.l)
			l, fault := Decode(c.s)
			if s != c.s || err != api.OK || !slices.Equal(l, c.l) || fault != api.OK {
				t.Errorf("behind %v: Encode(%v) = %x, %d; Decode = %v, %d", between.l, c.l, s, err, l, fault)
			}
		}
	}
}
