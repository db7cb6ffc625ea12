package code

import (
	"math"
	"testing"

	"lodge/api"
)

// The fields of each Op as the document's table has them: register, constant, target, number of a Stop, variable, slot.
var fields = []struct {
	op      int
	d, a, b byte
}{
	{api.Const, 'r', 'c', 0},
	{api.Copy, 'r', 'r', 0},
	{api.Add, 'r', 'r', 'r'},
	{api.Sub, 'r', 'r', 'r'},
	{api.Mul, 'r', 'r', 'r'},
	{api.Div, 'r', 'r', 'r'},
	{api.Less, 'r', 'r', 'r'},
	{api.Jump, 0, 't', 0},
	{api.If, 0, 'r', 't'},
	{api.Out, 0, 'r', 0},
	{api.Return, 0, 'r', 0},
	{api.Stop, 0, 'n', 0},
	{api.Bind, 'v', 'r', 0},
	{api.Tie, 'v', 'c', 0},
	{api.Free, 'v', 0, 0},
	{api.Load, 'r', 's', 0},
	{api.Store, 's', 'r', 0},
}

var limits = Limits{Regs: 5, Slots: 6, Vars: 3, Code: 9}

func lastOf(kind byte) (int, api.Errno) {
	switch kind {
	case 'r':
		return 4, api.ErrReg
	case 'c':
		return 65535, api.ErrConst
	case 't':
		return 8, api.ErrTarget
	case 'n':
		return 99, api.ErrStop
	case 'v':
		return 2, api.ErrVar
	case 's':
		return 5, api.ErrSlot
	}
	return math.MaxInt, api.OK
}

func wantFieldError(t *testing.T, x api.Ins, want api.Errno) {
	t.Helper()
	if err := FieldError(x, limits); err != want {
		t.Errorf("FieldError(%+v) = %d; want %d", x, err, want)
	}
}

// Each field of each Op in, below and above its range, the others at the ends of theirs.
func TestP5P7EachFieldOfEachOp(t *testing.T) {
	for _, f := range fields {
		kinds := [3]byte{f.d, f.a, f.b}
		for i, kind := range kinds {
			last, err := lastOf(kind)
			for _, n := range []int{math.MinInt, math.MinInt32, -65536, -1, 0, 1, last - 1, last, last + 1, 65536, 1 << 40, math.MaxInt} {
				v := [3]int{}
				for j, other := range kinds {
					v[j], _ = lastOf(other)
				}
				v[i] = n
				want := api.OK
				if kind != 0 && (n < 0 || n > last) {
					want = err
				}
				wantFieldError(t, api.Ins{Op: f.op, D: v[0], A: v[1], B: v[2]}, want)
			}
		}
	}
}

func TestP5P7FirstFieldFirst(t *testing.T) {
	for _, f := range fields {
		want := api.OK
		for _, kind := range []byte{f.d, f.a, f.b} {
			_, err := lastOf(kind)
			if want == api.OK {
				want = err
			}
		}
		wantFieldError(t, api.Ins{Op: f.op, D: -1, A: -1, B: -1}, want)
	}
}

func TestP5P7NoOp(t *testing.T) {
	for _, op := range []int{math.MinInt, -1, 17, 18, 1 << 32, math.MaxInt} {
		wantFieldError(t, api.Ins{Op: op}, api.ErrOp)
		wantFieldError(t, api.Ins{Op: op, D: -1, A: -1, B: -1}, api.ErrOp)
	}
}
