package code

import (
	"math"
	"testing"

	"lodge/api"
)

// The fields of each Op as the document's table has them: register, constant, target, number of a Stop, variable, slot.
var fields = []struct {
	op      int
	d, a, b byte
}{
	{api.Const, 'r', 'c', 0},
	{api.Copy, 'r', 'r', 0},
	{api.Add, 'r', 'r', 'r'},
	{api.Sub, 'r', 'r', 'r'},
	{api.Mul, 'r', 'r', 'r'},
	{api.Div, 'r', 'r', 'r'},
	{api.Less, 'r', 'r', 'r'},
	{api.Jump, 0, 't', 0},
	{api.If, 0, 'r', 't'},
	{api.Out, 0, 'r', 0},
	{api.Return, 0, 'r', 0},
	{api.Stop, 0, 'n', 0},
	{api.Bind, 'v', 'r', 0},
	{api.Tie, 'v', 'c', 0},
	{api.Free, 'v', 0, 0},
	{api.Load, 'r', 's', 0},
	{api.Store, 's', 'r', 0},
}

// limitsFor are such that the Op is one.
func limitsFor(op int) Limits {
	return Limits{Unit: op == api.Load || op == api.Store, Regs: 5, Slots: 6, Vars: 3}
}

func lastOf(kind byte) (int, api.Errno) {
	switch kind {
	case 'r':
		return 4, api.ErrReg
	case 'c':
		return 65535, api.ErrConst
	case 't':
		return 8, api.ErrTarget
	case 'n':
		return 99, api.ErrStop
	case 'v':
		return 2, api.ErrVar
	case 's':
		return 5, api.ErrSlot
	}
	return math.MaxInt, api.OK
}

// wantError: of the instruction x, in the midst of nine.
func wantError(t *testing.T, x api.Ins, want api.Errno) {
	t.Helper()
	list := make([]api.Ins, 9)
	for i := range list {
		list[i].Op = api.Return
	}
	list[4] = x
	place := 4
	if want == api.OK {
		place = 0
	}
	err, at := Check(list, limitsFor(x.Op))
	if err != want || at != place {
		t.Errorf("Check with %+v = %d, %d; want %d, %d", x, err, at, want, place)
	}
}

// Each field of each Op in, below and above its range, the others at the ends of theirs.
func TestP5P7EachFieldOfEachOp(t *testing.T) {
	for _, f := range fields {
		kinds := [3]byte{f.d, f.a, f.b}
		for i, kind := range kinds {
			last, err := lastOf(kind)
			for _, n := range []int{math.MinInt, math.MinInt32, -65536, -1, 0, 1, last - 1, last, last + 1, 65536, 1 << 40, math.MaxInt} {
				v := [3]int{}
				for j, other := range kinds {
					v[j], _ = lastOf(other)
				}
				v[i] = n
				want := api.OK
				if kind != 0 && (n < 0 || n > last) {
					want = err
				}
				wantError(t, api.Ins{Op: f.op, D: v[0], A: v[1], B: v[2]}, want)
			}
		}
	}
}

func TestP5P7FirstFieldFirst(t *testing.T) {
	for _, f := range fields {
		want := api.OK
		for _, kind := range []byte{f.d, f.a, f.b} {
			_, err := lastOf(kind)
			if want == api.OK {
				want = err
			}
		}
		wantError(t, api.Ins{Op: f.op, D: -1, A: -1, B: -1}, want)
	}
}

func TestP5P7NoOp(t *testing.T) {
	for _, op := range []int{math.MinInt, -1, 17, 18, 1 << 32, math.MaxInt} {
		wantError(t, api.Ins{Op: op}, api.ErrOp)
		wantError(t, api.Ins{Op: op, D: -1, A: -1, B: -1}, api.ErrOp)
	}
}

func TestP5P7OpsOfTheOther(t *testing.T) {
	for _, f := range fields {
		forProgram, forUnit := api.OK, api.OK
		if f.op == api.Load || f.op == api.Store {
			forProgram = api.ErrOp
		}
		if f.op == api.Bind || f.op == api.Tie || f.op == api.Free {
			forUnit = api.ErrOp
		}
		list := []api.Ins{{Op: f.op}, {Op: api.Return}}
		l := Limits{Regs: 1, Slots: 1, Vars: 1}
		if err, at := Check(list, l); err != forProgram || at != 0 {
			t.Errorf("a program's Op %d: %d, %d; want %d, 0", f.op, err, at, forProgram)
		}
		l.Unit = true
		if err, at := Check(list, l); err != forUnit || at != 0 {
			t.Errorf("a unit's Op %d: %d, %d; want %d, 0", f.op, err, at, forUnit)
		}
	}
}

func TestP1NoInstructions(t *testing.T) {
	for _, unit := range []bool{false, true} {
		for _, list := range [][]api.Ins{nil, {}} {
			if err, at := Check(list, Limits{Unit: unit, Regs: 1}); err != api.ErrSize || at != 0 {
				t.Errorf("Check of nothing = %d, %d; want ErrSize, 0", err, at)
			}
		}
	}
}
