package ir

import (
	"math"
	"math/rand"
	"testing"

	"lodge/api"
)

func wantCheck(t *testing.T, p api.Prog, want api.Errno, place int) {
	t.Helper()
	err, at := Check(p)
	if err != want || at != place {
		t.Errorf("Check(%+v) = %d, %d; want %d, %d", p, err, at, want, place)
	}
}

func prog(params, regs, vars int, l ...api.Ins) api.Prog {
	return api.Prog{Params: params, Regs: regs, Vars: vars, Code: l}
}

// returns is that many times Return 0.
func returns(count int) []api.Ins {
	l := make([]api.Ins, count)
	for i := range l {
		l[i].Op = api.Return
	}
	return l
}

// ends are numbers far out, at which a sum or a product would run over.
var ends = []int{math.MinInt, math.MinInt + 1, math.MinInt32, -65536, -1, 65536, 1 << 20, math.MaxInt32, 1 << 32, 1 << 40, math.MaxInt - 1, math.MaxInt}

func TestP5BoundsOfRegs(t *testing.T) {
	for regs := 1; regs <= 12; regs++ {
		wantCheck(t, prog(0, regs, 0, returns(1)...), api.OK, 0)
	}
	for _, regs := range append([]int{0, -1, 13, 14, 16}, ends...) {
		wantCheck(t, prog(0, regs, 0, returns(1)...), api.ErrSize, 0)
	}
}

func TestP5BoundsOfParams(t *testing.T) {
	for regs := 1; regs <= 12; regs++ {
		for params := -2; params <= 14; params++ {
			want := api.OK
			if params < 0 || params > 4 || params > regs {
				want = api.ErrSize
			}
			wantCheck(t, prog(params, regs, 0, returns(1)...), want, 0)
		}
	}
	for _, params := range ends {
		wantCheck(t, prog(params, 12, 0, returns(1)...), api.ErrSize, 0)
	}
}

func TestP5BoundsOfVars(t *testing.T) {
	for vars := 0; vars <= 4; vars++ {
		wantCheck(t, prog(0, 1, vars, returns(1)...), api.OK, 0)
	}
	for _, vars := range append([]int{-1, 5, 6, 12}, ends...) {
		wantCheck(t, prog(0, 1, vars, returns(1)...), api.ErrSize, 0)
	}
}

func TestP5BoundsOfTheCode(t *testing.T) {
	for count := 0; count <= 50; count++ {
		want := api.OK
		if count < 1 || count > 40 {
			want = api.ErrSize
		}
		wantCheck(t, prog(0, 1, 0, returns(count)...), want, 0)
	}
	wantCheck(t, api.Prog{Regs: 1}, api.ErrSize, 0)
	wantCheck(t, api.Prog{Regs: 1, Code: []api.Ins{}}, api.ErrSize, 0)
	wantCheck(t, api.Prog{}, api.ErrSize, 0)
	wantCheck(t, prog(0, 1, 0, returns(100000)...), api.ErrSize, 0)
}

// The sizes come ahead of whatever the code has.
func TestP5SizeComesFirst(t *testing.T) {
	bad := []api.Ins{{Op: 99, D: -1, A: -1, B: -1}}
	wantCheck(t, prog(0, 0, 0, bad...), api.ErrSize, 0)
	wantCheck(t, prog(2, 1, 0, bad...), api.ErrSize, 0)
	wantCheck(t, prog(0, 1, 5, bad...), api.ErrSize, 0)
	wantCheck(t, prog(0, 1, 0, append(returns(40), bad...)...), api.ErrSize, 0)
	wantCheck(t, prog(0, 1, 0, append(bad, returns(40)...)...), api.ErrSize, 0)
}

// shape has the fields of an Op as the document's table has them.
type shape struct {
	op      int
	d, a, b string
}

var shapes = []shape{
	{0, "register", "constant", ""},
	{1, "register", "register", ""},
	{2, "register", "register", "register"},
	{3, "register", "register", "register"},
	{4, "register", "register", "register"},
	{5, "register", "register", "register"},
	{6, "register", "register", "register"},
	{7, "", "target", ""},
	{8, "", "register", "target"},
	{9, "", "register", ""},
	{10, "", "register", ""},
	{11, "", "number", ""},
	{12, "variable", "register", ""},
	{13, "variable", "constant", ""},
	{14, "variable", "", ""},
}

// fault is the error of a field, by the words of the document.
func fault(p api.Prog, kind string, n int) api.Errno {
	limit, err := map[string]int{"register": p.Regs, "constant": 65536, "target": len(p.Code), "number": 100, "variable": p.Vars}[kind],
		map[string]api.Errno{"register": api.ErrReg, "constant": api.ErrConst, "target": api.ErrTarget, "number": api.ErrStop, "variable": api.ErrVar}[kind]
	if kind == "" || n >= 0 && n < limit {
		return api.OK
	}
	return err
}

// byTheWords is Check of a program whose sizes are right, by the words of the document.
func byTheWords(p api.Prog) (api.Errno, int) {
	for i, x := range p.Code {
		if x.Op < 0 || x.Op >= len(shapes) {
			return api.ErrOp, i
		}
		s := shapes[x.Op]
		for _, err := range []api.Errno{fault(p, s.d, x.D), fault(p, s.a, x.A), fault(p, s.b, x.B)} {
			if err != api.OK {
				return err, i
			}
		}
	}
	last := len(p.Code) - 1
	if op := p.Code[last].Op; op != api.Jump && op != api.Return {
		return api.ErrEnd, last
	}
	return api.OK, 0
}

// Each field of each Op at the edges of its range, in programs whose ranges differ in size, at the first, a middle and the last place.
func TestP5EachFieldOfEachOp(t *testing.T) {
	for _, size := range []api.Prog{prog(0, 5, 3, returns(8)...), prog(0, 1, 1, returns(1)...), prog(0, 12, 4, returns(40)...), prog(0, 1, 0, returns(2)...)} {
		edges := append([]int{0, 1, 2, 3, 4, 5, 6, 7, 8, 9, 11, 12, 13, 39, 40, 41, 99, 100, 101, 65534, 65535}, ends...)
		for _, s := range shapes {
			for _, at := range []int{0, len(size.Code) / 2, len(size.Code) - 1} {
				for _, n := range edges {
					for _, x := range []api.Ins{{Op: s.op, D: n}, {Op: s.op, A: n}, {Op: s.op, B: n}, {Op: s.op, D: n, A: n, B: n}} {
						p := size
						p.Code = append([]api.Ins{}, size.Code...)
						p.Code[at] = x
						want, place := byTheWords(p)
						wantCheck(t, p, want, place)
					}
				}
			}
		}
	}
}

// The table that the other tests hold to is itself held to: one instruction of each kind of field, told by hand.
func TestP5FieldsByHand(t *testing.T) {
	for _, c := range []struct {
		x    api.Ins
		want api.Errno
	}{
		{api.Ins{Op: api.Const, D: 2, A: 65535}, api.OK},
		{api.Ins{Op: api.Const, D: 3}, api.ErrReg},
		{api.Ins{Op: api.Const, D: -1}, api.ErrReg},
		{api.Ins{Op: api.Const, A: 65536}, api.ErrConst},
		{api.Ins{Op: api.Const, A: -1}, api.ErrConst},
		{api.Ins{Op: api.Copy, D: 2, A: 2}, api.OK},
		{api.Ins{Op: api.Copy, A: 3}, api.ErrReg},
		{api.Ins{Op: api.Div, D: 2, A: 2, B: 2}, api.OK},
		{api.Ins{Op: api.Div, B: 3}, api.ErrReg},
		{api.Ins{Op: api.Less, B: -1}, api.ErrReg},
		{api.Ins{Op: api.Jump, A: 4}, api.OK},
		{api.Ins{Op: api.Jump, A: 5}, api.ErrTarget},
		{api.Ins{Op: api.Jump, A: -1}, api.ErrTarget},
		{api.Ins{Op: api.If, A: 2, B: 4}, api.OK},
		{api.Ins{Op: api.If, A: 3, B: 4}, api.ErrReg},
		{api.Ins{Op: api.If, A: 2, B: 5}, api.ErrTarget},
		{api.Ins{Op: api.Stop, A: 99}, api.OK},
		{api.Ins{Op: api.Stop, A: 100}, api.ErrStop},
		{api.Ins{Op: api.Stop, A: -1}, api.ErrStop},
		{api.Ins{Op: api.Bind, D: 1, A: 2}, api.OK},
		{api.Ins{Op: api.Bind, D: 2, A: 2}, api.ErrVar},
		{api.Ins{Op: api.Bind, D: 1, A: 3}, api.ErrReg},
		{api.Ins{Op: api.Tie, D: 1, A: 65535}, api.OK},
		{api.Ins{Op: api.Tie, D: -1, A: 65535}, api.ErrVar},
		{api.Ins{Op: api.Tie, D: 1, A: 65536}, api.ErrConst},
		{api.Ins{Op: api.Free, D: 1}, api.OK},
		{api.Ins{Op: api.Free, D: 2}, api.ErrVar},
		{api.Ins{Op: api.Load}, api.ErrOp},
		{api.Ins{Op: api.Store}, api.ErrOp},
	} {
		l := returns(5)
		l[2] = c.x
		place := 2
		if c.want == api.OK {
			place = 0
		}
		wantCheck(t, prog(0, 3, 2, l...), c.want, place)
	}
}

func TestP5FieldsThatAnOpDoesNotHave(t *testing.T) {
	for _, n := range ends {
		for _, x := range []api.Ins{
			{Op: api.Const, B: n},
			{Op: api.Copy, B: n},
			{Op: api.Jump, D: n, B: n},
			{Op: api.If, D: n},
			{Op: api.Out, D: n, B: n},
			{Op: api.Return, D: n, B: n},
			{Op: api.Stop, D: n, B: n},
			{Op: api.Bind, B: n},
			{Op: api.Tie, B: n},
			{Op: api.Free, A: n, B: n},
		} {
			wantCheck(t, prog(0, 1, 1, x, api.Ins{Op: api.Return, D: n, B: n}), api.OK, 0)
			wantCheck(t, prog(0, 1, 1, x, api.Ins{Op: api.Jump, D: n, B: n}), api.OK, 0)
		}
	}
}

func TestP5NoOpOfAProgram(t *testing.T) {
	for _, op := range append([]int{15, 16, 17, 18, 255, 256}, ends...) {
		for at := 0; at < 3; at++ {
			l := returns(3)
			l[at] = api.Ins{Op: op}
			wantCheck(t, prog(0, 1, 0, l...), api.ErrOp, at)
			l[at] = api.Ins{Op: op, D: -1, A: -1, B: -1}
			wantCheck(t, prog(0, 1, 0, l...), api.ErrOp, at)
		}
	}
}

func TestP5WhichErrorComesFirst(t *testing.T) {
	bad := []struct {
		x   api.Ins
		err api.Errno
	}{
		{api.Ins{Op: -1, D: -1, A: -1, B: -1}, api.ErrOp},
		{api.Ins{Op: api.Const, D: -1, A: -1}, api.ErrReg},
		{api.Ins{Op: api.Const, D: 0, A: -1}, api.ErrConst},
		{api.Ins{Op: api.If, D: -1, A: -1, B: -1}, api.ErrReg},
		{api.Ins{Op: api.If, D: -1, A: 0, B: -1}, api.ErrTarget},
		{api.Ins{Op: api.Bind, D: -1, A: -1}, api.ErrVar},
		{api.Ins{Op: api.Bind, D: 0, A: -1}, api.ErrReg},
		{api.Ins{Op: api.Tie, D: -1, A: -1}, api.ErrVar},
		{api.Ins{Op: api.Tie, D: 0, A: -1}, api.ErrConst},
		{api.Ins{Op: api.Stop, A: 100}, api.ErrStop},
	}
	out := api.Ins{Op: api.Out}
	for _, b := range bad {
		for _, later := range bad {
			wantCheck(t, prog(0, 1, 1, b.x, later.x), b.err, 0)
			wantCheck(t, prog(0, 1, 1, out, b.x, later.x, out), b.err, 1)
			wantCheck(t, prog(0, 1, 1, returns(1)[0], out, b.x, out, later.x), b.err, 2)
		}
		// A fault of the last instruction comes ahead of the end that it does not make.
		wantCheck(t, prog(0, 1, 1, out, b.x), b.err, 1)
	}
}

func TestP5TheEnd(t *testing.T) {
	for _, s := range shapes {
		for count := 1; count <= 40; count += 13 {
			l := returns(count)
			l[count-1] = api.Ins{Op: s.op}
			if s.op == api.Jump || s.op == api.Return {
				wantCheck(t, prog(0, 1, 1, l...), api.OK, 0)
			} else {
				wantCheck(t, prog(0, 1, 1, l...), api.ErrEnd, count-1)
			}
		}
	}
	// A trapping Div and an If that always jumps end nothing.
	wantCheck(t, prog(0, 1, 0, api.Ins{Op: api.Div}), api.ErrEnd, 0)
	wantCheck(t, prog(0, 1, 0, api.Ins{Op: api.Const, A: 1}, api.Ins{Op: api.If}), api.ErrEnd, 1)
}

func TestP5Examples(t *testing.T) {
	wantCheck(t, prog(0, 1, 0, api.Ins{Op: api.Jump}), api.OK, 0)
	wantCheck(t, prog(0, 1, 0, api.Ins{Op: api.Const, A: 65536}, api.Ins{Op: api.Return}), api.ErrConst, 0)
	wantCheck(t, prog(0, 1, 0, api.Ins{Op: api.Return}, api.Ins{Op: api.Out}), api.ErrEnd, 1)
	wantCheck(t, prog(0, 1, 0, api.Ins{Op: api.Bind, A: 5}, api.Ins{Op: api.Return}), api.ErrVar, 0)
}

// Code that is mostly right, with now and then a number out of its range.
func TestP5ByTheWords(t *testing.T) {
	r := rand.New(rand.NewSource(5))
	found := [16]int{}
	number := func(limit int) int {
		if r.Intn(40) == 0 {
			return []int{-1, limit, 100, 65536, ends[r.Intn(len(ends))]}[r.Intn(5)]
		}
		return r.Intn(limit)
	}
	for i := 0; i < 200000; i++ {
		regs, vars, count := 1+r.Intn(12), r.Intn(5), 1+r.Intn(40)
		p := prog(r.Intn(min(regs, 4)+1), regs, vars, make([]api.Ins, count)...)
		for j := range p.Code {
			x := api.Ins{Op: number(15), D: number(min(regs, max(vars, 1))), A: number(min(regs, count)), B: number(min(regs, count))}
			p.Code[j] = x
		}
		if r.Intn(2) == 0 {
			p.Code[count-1].Op = api.Return
		}
		want, place := byTheWords(p)
		found[want]++
		wantCheck(t, p, want, place)
	}
	for _, err := range []api.Errno{api.OK, api.ErrOp, api.ErrReg, api.ErrConst, api.ErrTarget, api.ErrStop, api.ErrVar, api.ErrEnd} {
		if found[err] < 100 {
			t.Errorf("only %d programs with the answer %d", found[err], err)
		}
	}
}

// What is behind the list is not written, nor the list itself.
func TestP2CheckLeavesTheCode(t *testing.T) {
	for _, last := range []int{api.Return, api.Out, api.Load, -1} {
		room := make([]api.Ins, 30)
		for i := range room {
			room[i] = api.Ins{Op: api.Add, D: i % 3, A: 1, B: 2}
		}
		room[19].Op = last
		before := append([]api.Ins{}, room...)
		p := prog(2, 3, 1, room[5:20]...)
		p.Code = room[5:20]
		err, at := Check(p)
		again, place := Check(p)
		if err != again || at != place {
			t.Errorf("Check answers %d, %d and then %d, %d", err, at, again, place)
		}
		for i := range room {
			if room[i] != before[i] {
				t.Errorf("Check has written into the code, or beside it, at %d", i-5)
			}
		}
	}
}
