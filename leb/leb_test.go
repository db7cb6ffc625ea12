package leb

import (
	"math"
	"testing"

	"lodge/api"
)

// written has, at each edge, a number and the bytes that the document asks for.
var written = []struct {
	n int
	s string
}{
	{0, "\x00"},
	{1, "\x01"},
	{126, "\x7e"},
	{127, "\x7f"},
	{128, "\x80\x01"},
	{129, "\x81\x01"},
	{255, "\xff\x01"},
	{256, "\x80\x02"},
	{300, "\xac\x02"},
	{16383, "\xff\x7f"},
	{16384, "\x80\x80\x01"},
	{16385, "\x81\x80\x01"},
	{65535, "\xff\xff\x03"},
	{65536, "\x80\x80\x04"},
	{2097150, "\xfe\xff\x7f"},
	{2097151, "\xff\xff\x7f"},
}

func wantNoNumber(t *testing.T, s string, at int) {
	t.Helper()
	n, next, err := Get(s, at)
	if n != 0 || next != 0 || err != api.ErrBytes {
		t.Errorf("Get(%.40x, %d) = %d, %d, %d; want 0, 0, ErrBytes", s, at, n, next, err)
	}
}

func TestP3PutAtTheEdges(t *testing.T) {
	for _, c := range written {
		s, err := Put(c.n)
		if s != c.s || err != api.OK {
			t.Errorf("Put(%d) = %x, %d; want %x, OK", c.n, s, err, c.s)
		}
	}
}

func TestP1P3PutOutOfBounds(t *testing.T) {
	for _, n := range []int{-1, -2, -127, -128, -2097151, math.MinInt32, math.MinInt, 2097152, 2097153, 1 << 22, 1 << 28, math.MaxInt32, math.MaxInt - 1, math.MaxInt} {
		s, err := Put(n)
		if s != "" || err != api.ErrNumber {
			t.Errorf("Put(%d) = %x, %d; want nothing, ErrNumber", n, s, err)
		}
	}
}

func TestP3GetAtTheEdges(t *testing.T) {
	around := []string{"", "\x00", "\x01", "\x7f", "\x80", "\xff", "\xff\xff\xff\xff"}
	for _, c := range written {
		for _, ahead := range around {
			for _, behind := range around {
				s := ahead + c.s + behind
				n, next, err := Get(s, len(ahead))
				if n != c.n || next != len(ahead)+len(c.s) || err != api.OK {
					t.Errorf("Get(%x, %d) = %d, %d, %d; want %d, %d, OK", s, len(ahead), n, next, err, c.n, len(ahead)+len(c.s))
				}
			}
		}
	}
}

func TestP3GetExample(t *testing.T) {
	n, next, err := Get("\x05\xac\x02", 1)
	if n != 300 || next != 3 || err != api.OK {
		t.Errorf("Get(05ac02, 1) = %d, %d, %d; want 300, 3, OK", n, next, err)
	}
}

// Each number is put in as few bytes as can be, seven bits a byte, and read back.
func TestP3EveryNumber(t *testing.T) {
	for n := 0; n <= api.MaxNumber; n++ {
		s, err := Put(n)
		size := 1
		if n >= 1<<14 {
			size = 3
		} else if n >= 1<<7 {
			size = 2
		}
		if err != api.OK || len(s) != size {
			t.Fatalf("Put(%d) = %x, %d; want %d bytes", n, s, err, size)
		}
		for i := 0; i < size; i++ {
			bits := n >> (7 * i) & 127
			if i < size-1 {
				bits += 128
			}
			if int(s[i]) != bits {
				t.Fatalf("Put(%d) = %x; byte %d is not %x", n, s, i, bits)
			}
		}
		m, next, err := Get(s, 0)
		if m != n || next != size || err != api.OK {
			t.Fatalf("Get(%x, 0) = %d, %d, %d; want %d, %d, OK", s, m, next, err, n, size)
		}
	}
}

// Of all strings of three bytes, Get reads just those that begin as some Put writes:
// what it reads is what Put writes, and it reads as many as there are.
func TestP3EveryStringOfThreeBytes(t *testing.T) {
	read := 0
	for i := 0; i < 1<<24; i++ {
		s := string([]byte{byte(i >> 16), byte(i >> 8), byte(i)})
		n, next, err := Get(s, 0)
		if err != api.OK {
			if n != 0 || next != 0 || err != api.ErrBytes {
				t.Fatalf("Get(%x, 0) = %d, %d, %d", s, n, next, err)
			}
			continue
		}
		read++
		back, _ := Put(n)
		if next < 1 || next > 3 || back != s[:next] {
			t.Fatalf("Get(%x, 0) = %d, %d; Put writes %x", s, n, next, back)
		}
	}
	want := 128*65536 + (16384-128)*256 + (2097152 - 16384)
	if read != want {
		t.Errorf("Get reads %d of the strings of three bytes; want %d", read, want)
	}
}

func TestP3BytesThatNoPutWrites(t *testing.T) {
	for _, s := range []string{
		"\x80\x00", "\x81\x00", "\xff\x00", "\x80\x00\x01",
		"\x80\x80\x00", "\xff\xff\x00", "\x80\xff\x00", "\x80\x80\x00\x01",
		"\x80\x80\x80\x00", "\x80\x80\x80\x01", "\xff\xff\xff\x00", "\xff\xff\xff\x01", "\xff\xff\xff\x7f",
		"\x80\x80\x80\x80\x01", "\xff\xff\xff\xff\xff\xff\xff\xff\xff\x01",
	} {
		wantNoNumber(t, s, 0)
		wantNoNumber(t, "\x05"+s, 1)
	}
}

func TestP1P3BytesCutOff(t *testing.T) {
	for _, c := range written {
		for size := 0; size < len(c.s); size++ {
			wantNoNumber(t, c.s[:size], 0)
			wantNoNumber(t, "\x00\x00"+c.s[:size], 2)
		}
	}
}

func TestP1P3PlaceOutsideTheString(t *testing.T) {
	for _, s := range []string{"", "\x01", "\xac\x02", "\x01\x02\x03"} {
		for _, at := range []int{len(s), len(s) + 1, len(s) + 100, -1, -2, -len(s) - 1, math.MinInt32, math.MinInt, math.MaxInt32, math.MaxInt - 2, math.MaxInt} {
			wantNoNumber(t, s, at)
		}
	}
}

func TestP1LongStrings(t *testing.T) {
	long := make([]byte, 1<<20)
	for i := range long {
		long[i] = 0xff
	}
	wantNoNumber(t, string(long), 0)
	wantNoNumber(t, string(long), len(long)-1)
	wantNoNumber(t, string(long), len(long)-3)
	wantNoNumber(t, string(long), len(long))
}
