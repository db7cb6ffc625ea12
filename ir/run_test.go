package ir

import (
	"math"
	"math/rand"
	"reflect"
	"slices"
	"testing"

	"lodge/api"
)

func two(op, d, a int) api.Ins { return api.Ins{Op: op, D: d, A: a} }

func three(op, d, a, b int) api.Ins { return api.Ins{Op: op, D: d, A: a, B: b} }

func one(op, a int) api.Ins { return api.Ins{Op: op, A: a} }

func branch(a, target int) api.Ins { return api.Ins{Op: api.If, A: a, B: target} }

// see is what is seen at a Stop, of the variables from 0 on; the others have no value.
func see(number int, vars ...int) api.Seen {
	s := api.Seen{Stop: number, Vars: [4]int{-1, -1, -1, -1}}
	copy(s.Vars[:], vars)
	return s
}

func alike(a, b api.Result) bool {
	return a.End == b.End && a.Value == b.Value && a.Steps == b.Steps && slices.Equal(a.Outs, b.Outs) && slices.Equal(a.Stops, b.Stops)
}

func wantRun(t *testing.T, p api.Prog, args []int, fuel int, want api.Result) {
	t.Helper()
	r, err := Run(p, args, fuel)
	if err != api.OK || !alike(r, want) {
		t.Errorf("Run(%+v, %v, %d) = %+v, %d; want %+v, OK", p, args, fuel, r, err, want)
	}
}

// wantNoRun: an error, and beside it a result that is zero in each field.
func wantNoRun(t *testing.T, p api.Prog, args []int, fuel int, want api.Errno) {
	t.Helper()
	r, err := Run(p, args, fuel)
	if err != want || !reflect.DeepEqual(r, api.Result{}) {
		t.Errorf("Run(%+v, %v, %d) = %+v, %d; want nothing, %d", p, args, fuel, r, err, want)
	}
}

var values = []int{0, 1, 2, 3, 7, 9, 255, 256, 257, 32767, 32768, 32769, 65533, 65534, 65535}

// answer is what an Op of the arithmetic makes of a and b.
func answer(op, a, b int) int {
	x, y := uint16(a), uint16(b)
	switch op {
	case api.Add:
		return int(x + y)
	case api.Sub:
		return int(x - y)
	case api.Mul:
		return int(x * y)
	case api.Div:
		return int(x / y)
	}
	if x < y {
		return 1
	}
	return 0
}

func TestP6Arithmetic(t *testing.T) {
	for _, op := range []int{api.Add, api.Sub, api.Mul, api.Div, api.Less} {
		p := prog(2, 3, 0, three(op, 2, 0, 1), one(api.Out, 0), one(api.Out, 1), one(api.Return, 2))
		for _, a := range values {
			for _, b := range values {
				if op == api.Div && b == 0 {
					wantRun(t, p, []int{a, b}, 9, api.Result{End: api.Trapped, Steps: 1})
					continue
				}
				wantRun(t, p, []int{a, b}, 9, api.Result{Value: answer(op, a, b), Steps: 4, Outs: []int{a, b}})
			}
		}
	}
}

func TestP6ArithmeticByHand(t *testing.T) {
	for _, c := range []struct{ op, a, b, want int }{
		{api.Add, 3, 4, 7},
		{api.Add, 65535, 1, 0},
		{api.Add, 65535, 65535, 65534},
		{api.Sub, 4, 3, 1},
		{api.Sub, 3, 4, 65535},
		{api.Sub, 0, 65535, 1},
		{api.Mul, 6, 7, 42},
		{api.Mul, 256, 256, 0},
		{api.Mul, 65535, 65535, 1},
		{api.Mul, 46341, 46341, 4633},
		{api.Div, 7, 2, 3},
		{api.Div, 6, 7, 0},
		{api.Div, 65535, 1, 65535},
		{api.Div, 0, 5, 0},
		{api.Less, 4, 5, 1},
		{api.Less, 5, 5, 0},
		{api.Less, 5, 4, 0},
		{api.Less, 0, 65535, 1},
		{api.Less, 65535, 0, 0},
	} {
		p := prog(2, 2, 0, three(c.op, 0, 0, 1), one(api.Return, 0))
		wantRun(t, p, []int{c.a, c.b}, 9, api.Result{Value: c.want, Steps: 2})
	}
}

// D may be A, or B, or both: A and B are read ahead.
func TestP6FieldsThatAreTheSameRegister(t *testing.T) {
	for _, op := range []int{api.Add, api.Sub, api.Mul, api.Div, api.Less} {
		into := func(d, a, b int) api.Prog { return prog(2, 2, 0, three(op, d, a, b), one(api.Return, d)) }
		for _, a := range values[1:] {
			for _, b := range values[1:] {
				wantRun(t, into(0, 0, 1), []int{a, b}, 9, api.Result{Value: answer(op, a, b), Steps: 2})
				wantRun(t, into(1, 0, 1), []int{a, b}, 9, api.Result{Value: answer(op, a, b), Steps: 2})
				wantRun(t, into(0, 1, 0), []int{a, b}, 9, api.Result{Value: answer(op, b, a), Steps: 2})
				wantRun(t, into(0, 0, 0), []int{a, b}, 9, api.Result{Value: answer(op, a, a), Steps: 2})
				wantRun(t, into(0, 1, 1), []int{a, b}, 9, api.Result{Value: answer(op, b, b), Steps: 2})
			}
		}
	}
}

func TestP6ConstAndCopy(t *testing.T) {
	for _, n := range values {
		wantRun(t, prog(1, 2, 0, two(api.Const, 1, n), one(api.Out, 1), one(api.Return, 0)), []int{5}, 9, api.Result{Value: 5, Steps: 3, Outs: []int{n}})
		wantRun(t, prog(1, 2, 0, two(api.Copy, 1, 0), one(api.Out, 0), one(api.Return, 1)), []int{n}, 9, api.Result{Value: n, Steps: 3, Outs: []int{n}})
	}
	// A copy stays when that which it was made of changes.
	wantRun(t, prog(1, 2, 0, two(api.Copy, 1, 0), two(api.Const, 0, 3), one(api.Out, 0), one(api.Return, 1)), []int{8}, 9, api.Result{Value: 8, Steps: 4, Outs: []int{3}})
	wantRun(t, prog(1, 1, 0, two(api.Copy, 0, 0), one(api.Return, 0)), []int{8}, 9, api.Result{Value: 8, Steps: 2})
}

func TestP6DivisionByZero(t *testing.T) {
	// What was put out and seen ahead of it stays; what stands behind it is not done.
	p := prog(1, 3, 1, one(api.Out, 0), two(api.Tie, 0, 4), one(api.Stop, 3), three(api.Div, 2, 0, 1), one(api.Out, 0), one(api.Stop, 4), one(api.Return, 0))
	want := api.Result{End: api.Trapped, Steps: 4, Outs: []int{9}, Stops: []api.Seen{see(3, 4)}}
	wantRun(t, p, []int{9}, 100000, want)
	wantRun(t, p, []int{9}, 4, want)
	wantRun(t, p, []int{9}, 3, api.Result{End: api.Spent, Steps: 3, Outs: []int{9}, Stops: []api.Seen{see(3, 4)}})
	wantRun(t, prog(0, 1, 0, three(api.Div, 0, 0, 0), one(api.Return, 0)), nil, 9, api.Result{End: api.Trapped, Steps: 1})
	wantRun(t, prog(2, 2, 0, three(api.Div, 0, 0, 1), one(api.Return, 0)), []int{5, 0}, 9, api.Result{End: api.Trapped, Steps: 1})
	wantRun(t, prog(2, 2, 0, three(api.Div, 0, 0, 1), one(api.Return, 0)), []int{5, 2}, 9, api.Result{Value: 2, Steps: 2})
}

func TestP6JumpsBackAndAhead(t *testing.T) {
	ahead := prog(1, 1, 0, one(api.Jump, 2), one(api.Out, 0), one(api.Jump, 4), one(api.Out, 0), one(api.Return, 0))
	wantRun(t, ahead, []int{6}, 9, api.Result{Value: 6, Steps: 3})
	back := prog(1, 1, 0, one(api.Jump, 3), one(api.Out, 0), one(api.Return, 0), one(api.Jump, 1))
	wantRun(t, back, []int{6}, 9, api.Result{Value: 6, Steps: 4, Outs: []int{6}})
	next := prog(1, 1, 0, one(api.Jump, 1), branch(0, 2), one(api.Return, 0))
	wantRun(t, next, []int{6}, 9, api.Result{Value: 6, Steps: 3})
	wantRun(t, next, []int{0}, 9, api.Result{Steps: 3})
	self := prog(1, 1, 0, branch(0, 0), one(api.Return, 0))
	wantRun(t, self, []int{0}, 9, api.Result{Steps: 2})
	wantRun(t, self, []int{1}, 9, api.Result{End: api.Spent, Steps: 9})
	// The last instruction jumps, and so does the first, to where it began.
	wantRun(t, prog(0, 1, 0, one(api.Jump, 0)), nil, 7, api.Result{End: api.Spent, Steps: 7})
	for _, a := range values {
		which := prog(1, 3, 0, branch(0, 3), two(api.Const, 1, 10), one(api.Return, 1), two(api.Const, 1, 20), one(api.Return, 1))
		want := api.Result{Value: 20, Steps: 3}
		if a == 0 {
			want.Value = 10
		}
		wantRun(t, which, []int{a}, 9, want)
	}
}

// down puts out its arg and all numbers below it: each round, but for the last, is four steps.
var down = prog(1, 2, 0, two(api.Const, 1, 1), one(api.Out, 0), branch(0, 4), one(api.Return, 0), three(api.Sub, 0, 0, 1), one(api.Jump, 1))

func TestP6Fuel(t *testing.T) {
	look := prog(2, 3, 1, three(api.Add, 2, 0, 1), two(api.Bind, 0, 2), one(api.Stop, 7), two(api.Const, 2, 9), one(api.Stop, 8), one(api.Out, 2), one(api.Return, 0))
	whole := api.Result{Value: 3, Steps: 7, Outs: []int{9}, Stops: []api.Seen{see(7, 7), see(8, 7)}}
	for _, fuel := range []int{7, 8, 100, 99999, 100000} {
		wantRun(t, look, []int{3, 4}, fuel, whole)
	}
	for fuel := 0; fuel < 7; fuel++ {
		want := api.Result{End: api.Spent, Steps: fuel}
		if fuel >= 3 {
			want.Stops = append(want.Stops, see(7, 7))
		}
		if fuel >= 5 {
			want.Stops = append(want.Stops, see(8, 7))
		}
		if fuel >= 6 {
			want.Outs = []int{9}
		}
		wantRun(t, look, []int{3, 4}, fuel, want)
	}
	for _, n := range []int{0, 1, 2, 30, 24999} {
		want := api.Result{Steps: 4*n + 4}
		for i := n; i >= 0; i-- {
			want.Outs = append(want.Outs, i)
		}
		wantRun(t, down, []int{n}, 4*n+4, want)
		want.End = api.Spent
		want.Steps--
		wantRun(t, down, []int{n}, 4*n+3, want)
	}
	wantRun(t, prog(0, 1, 0, one(api.Return, 0)), nil, 1, api.Result{Steps: 1})
	wantRun(t, prog(0, 1, 0, one(api.Return, 0)), nil, 0, api.Result{End: api.Spent})
	wantRun(t, prog(2, 2, 0, three(api.Div, 0, 0, 1), one(api.Return, 0)), []int{5, 0}, 0, api.Result{End: api.Spent})
	wantRun(t, prog(0, 1, 0, one(api.Jump, 0)), nil, 100000, api.Result{End: api.Spent, Steps: 100000})
}

// All fuel goes into Outs and Stops: the lists grow as long as they can.
func TestP6LongLists(t *testing.T) {
	r, err := Run(prog(1, 1, 1, two(api.Bind, 0, 0), one(api.Stop, 99), one(api.Out, 0), one(api.Jump, 1)), []int{6}, 100000)
	if err != api.OK || r.End != api.Spent || r.Steps != 100000 || len(r.Stops) != 33333 || len(r.Outs) != 33333 {
		t.Fatalf("%d Stops and %d Outs, %d steps, End %d, %d", len(r.Stops), len(r.Outs), r.Steps, r.End, err)
	}
	for i := range r.Stops {
		if r.Stops[i] != see(99, 6) || r.Outs[i] != 6 {
			t.Fatalf("Stop %d is %v, Out %d", i, r.Stops[i], r.Outs[i])
		}
	}
}

func TestP6Start(t *testing.T) {
	for params := 0; params <= 4; params++ {
		p := prog(params, 12, 4)
		args := []int{65535, 300, 1, 0}[:params]
		want := api.Result{Steps: 14, Stops: []api.Seen{see(5)}}
		p.Code = append(p.Code, one(api.Stop, 5))
		for i := 0; i < 12; i++ {
			p.Code = append(p.Code, one(api.Out, i))
			want.Outs = append(want.Outs, 0)
		}
		copy(want.Outs, args)
		p.Code = append(p.Code, one(api.Return, 11))
		wantRun(t, p, args, 100, want)
	}
}

func TestP6VariablesAtAStop(t *testing.T) {
	p := prog(1, 2, 4,
		one(api.Stop, 0),
		two(api.Bind, 3, 0), two(api.Tie, 1, 65535), one(api.Stop, 1),
		// What a Bind gave stays, whatever is done to the register.
		two(api.Const, 0, 8), one(api.Stop, 2),
		// A Bind behind a Bind, a Bind behind a Tie, a Tie behind a Bind.
		two(api.Bind, 1, 0), one(api.Stop, 3), two(api.Const, 0, 9), two(api.Bind, 1, 0), two(api.Bind, 0, 1), one(api.Stop, 4),
		two(api.Tie, 3, 0), one(api.Stop, 5),
		// Free behind each, twice, and of a variable that has none.
		two(api.Free, 3, 0), two(api.Free, 1, 0), two(api.Free, 1, 0), two(api.Free, 2, 0), one(api.Stop, 6),
		two(api.Tie, 1, 7), one(api.Stop, 99),
		one(api.Return, 0))
	wantRun(t, p, []int{6}, 100, api.Result{Value: 9, Steps: 22, Stops: []api.Seen{
		see(0), see(1, -1, 65535, -1, 6), see(2, -1, 65535, -1, 6), see(3, -1, 8, -1, 6), see(4, 0, 9, -1, 6), see(5, 0, 9, -1, 0), see(6, 0), see(99, 0, 7),
	}})
	// What was seen at an earlier Stop is not changed by what comes behind it.
	loop := prog(1, 3, 1, two(api.Const, 1, 1), two(api.Bind, 0, 0), one(api.Stop, 1), three(api.Sub, 0, 0, 1), branch(0, 1), one(api.Stop, 2), two(api.Free, 0, 0), one(api.Stop, 3), one(api.Return, 2))
	wantRun(t, loop, []int{3}, 100, api.Result{Steps: 17, Stops: []api.Seen{see(1, 3), see(1, 2), see(1, 1), see(2, 1), see(3)}})
}

// Of the variables that a program does not have, -1 is seen.
func TestP6VariablesFromVarsOn(t *testing.T) {
	for vars := 0; vars <= 4; vars++ {
		p := prog(0, 1, vars)
		want := see(1)
		for v := 0; v < vars; v++ {
			p.Code = append(p.Code, two(api.Tie, v, 10+v))
			want.Vars[v] = 10 + v
		}
		p.Code = append(p.Code, one(api.Stop, 1), one(api.Return, 0))
		wantRun(t, p, nil, 100, api.Result{Steps: vars + 2, Stops: []api.Seen{want}})
	}
}

// A variable is no register: nothing that a program does is changed by Bind, Tie and Free.
func TestP6VariablesChangeNoRegister(t *testing.T) {
	p := prog(2, 2, 4, two(api.Bind, 0, 1), two(api.Tie, 1, 5), two(api.Free, 0, 0), two(api.Free, 1, 0), one(api.Stop, 1), one(api.Out, 0), one(api.Return, 1))
	wantRun(t, p, []int{3, 4}, 100, api.Result{Value: 4, Steps: 7, Outs: []int{3}, Stops: []api.Seen{see(1)}})
}

// Fields that an Op does not have are not looked at.
func TestP6FieldsThatAnOpDoesNotHave(t *testing.T) {
	for _, n := range ends {
		p := prog(1, 2, 1,
			api.Ins{Op: api.Const, D: 1, A: 4, B: n}, api.Ins{Op: api.Copy, D: 1, A: 0, B: n}, api.Ins{Op: api.Bind, D: 0, A: 0, B: n},
			api.Ins{Op: api.Stop, D: n, A: 1, B: n}, api.Ins{Op: api.Tie, D: 0, A: 2, B: n}, api.Ins{Op: api.Stop, D: n, A: 2, B: n},
			api.Ins{Op: api.Free, D: 0, A: n, B: n}, api.Ins{Op: api.If, D: n, A: 0, B: 9}, api.Ins{Op: api.Return, D: n, A: 0, B: n},
			api.Ins{Op: api.Out, D: n, A: 1, B: n}, api.Ins{Op: api.Jump, D: n, A: 8, B: n})
		wantRun(t, p, []int{6}, 100, api.Result{Value: 6, Steps: 11, Outs: []int{6}, Stops: []api.Seen{see(1, 6), see(2, 2)}})
	}
}

func TestP1P6WrongPrograms(t *testing.T) {
	for _, c := range []struct {
		p   api.Prog
		err api.Errno
	}{
		{api.Prog{}, api.ErrSize},
		{prog(0, 1, 0), api.ErrSize},
		{prog(0, 13, 0, returns(1)...), api.ErrSize},
		{prog(math.MaxInt, math.MaxInt, 0, returns(1)...), api.ErrSize},
		{prog(0, 1, math.MinInt, returns(1)...), api.ErrSize},
		{prog(0, 1, 0, returns(41)...), api.ErrSize},
		{prog(0, 1, 0, returns(1)[0], one(99, 0), returns(1)[0]), api.ErrOp},
		{prog(0, 1, 0, one(api.Load, 0), one(api.Return, 0)), api.ErrOp},
		{prog(0, 1, 0, one(api.Return, 0), one(api.Return, 1)), api.ErrReg},
		{prog(0, 1, 0, one(api.Const, 65536), one(api.Return, 0)), api.ErrConst},
		{prog(0, 1, 0, one(api.Jump, 1)), api.ErrTarget},
		{prog(0, 1, 0, one(api.Stop, 100), one(api.Return, 0)), api.ErrStop},
		{prog(0, 1, 0, one(api.Free, 0), one(api.Return, 0)), api.ErrVar},
		{prog(0, 1, 0, one(api.Out, 0)), api.ErrEnd},
	} {
		// Right args and fuel, and wrong ones: the program comes first.
		wantNoRun(t, c.p, nil, 5, c.err)
		wantNoRun(t, c.p, []int{-1}, -1, c.err)
		wantNoRun(t, c.p, nil, 100001, c.err)
	}
}

func TestP1P6WrongArgs(t *testing.T) {
	for params := 0; params <= 4; params++ {
		p := prog(params, 4, 0, one(api.Out, 0), one(api.Return, 0))
		for count := 0; count <= 9; count++ {
			if count == params {
				continue
			}
			for _, fuel := range []int{0, 5, 100000, -1, 100001} {
				wantNoRun(t, p, make([]int, count), fuel, api.ErrArgs)
			}
		}
		for i := 0; i < params; i++ {
			for _, n := range ends {
				args := make([]int, params)
				args[i] = n
				for _, fuel := range []int{0, 5, 100000, -1, 100001} {
					wantNoRun(t, p, args, fuel, api.ErrArgs)
				}
			}
		}
	}
	wantNoRun(t, prog(0, 4, 0, one(api.Return, 0)), make([]int, 100000), 5, api.ErrArgs)
}

func TestP1P6WrongFuels(t *testing.T) {
	for _, fuel := range []int{-1, -2, -100000, math.MinInt32, math.MinInt, 100001, 100002, math.MaxInt32, math.MaxInt} {
		wantNoRun(t, down, []int{3}, fuel, api.ErrFuel)
		wantNoRun(t, prog(0, 1, 0, one(api.Return, 0)), nil, fuel, api.ErrFuel)
	}
}

func TestP6NilArgsAndNoArgs(t *testing.T) {
	p := prog(0, 1, 0, one(api.Return, 0))
	wantRun(t, p, nil, 5, api.Result{Steps: 1})
	wantRun(t, p, []int{}, 5, api.Result{Steps: 1})
}

// byTheTable runs a program by the document's table: registers of 16 bits, and variables that are there or not.
func byTheTable(p api.Prog, args []int, fuel int) api.Result {
	regs, vars := map[int]uint16{}, map[int]uint16{}
	for i, a := range args {
		regs[i] = uint16(a)
	}
	r := api.Result{End: api.Spent}
	for at := 0; fuel > 0; fuel-- {
		x := p.Code[at]
		r.Steps, at = r.Steps+1, at+1
		switch {
		case x.Op == api.Const:
			regs[x.D] = uint16(x.A)
		case x.Op == api.Copy:
			regs[x.D] = regs[x.A]
		case x.Op == api.Div && regs[x.B] == 0:
			r.End = api.Trapped
			return r
		case x.Op >= api.Add && x.Op <= api.Less:
			regs[x.D] = uint16(answer(x.Op, int(regs[x.A]), int(regs[x.B])))
		case x.Op == api.Jump:
			at = x.A
		case x.Op == api.If && regs[x.A] != 0:
			at = x.B
		case x.Op == api.Out:
			r.Outs = append(r.Outs, int(regs[x.A]))
		case x.Op == api.Return:
			r.End, r.Value = api.Returned, int(regs[x.A])
			return r
		case x.Op == api.Stop:
			s := see(x.A)
			for v, n := range vars {
				s.Vars[v] = int(n)
			}
			r.Stops = append(r.Stops, s)
		case x.Op == api.Bind:
			vars[x.D] = regs[x.A]
		case x.Op == api.Tie:
			vars[x.D] = uint16(x.A)
		case x.Op == api.Free:
			delete(vars, x.D)
		}
	}
	return r
}

// anyProg is a program that Check finds right.
func anyProg(r *rand.Rand) api.Prog {
	regs, count := 1+r.Intn(12), 1+r.Intn(40)
	p := prog(r.Intn(min(regs, 4)+1), regs, r.Intn(5), make([]api.Ins, count)...)
	kind := func(name string) int {
		switch name {
		case "register":
			return r.Intn(regs)
		case "constant":
			return values[r.Intn(len(values))]
		case "target":
			return r.Intn(count)
		case "number":
			return r.Intn(100)
		case "variable":
			return r.Intn(p.Vars)
		}
		return ends[r.Intn(len(ends))]
	}
	for i := range p.Code {
		ops := 15
		if p.Vars == 0 {
			ops = 12
		}
		s := shapes[r.Intn(ops)]
		if s.op == api.Return && r.Intn(3) > 0 {
			s = shapes[api.Stop]
		}
		if i == count-1 {
			s = shapes[[]int{api.Jump, api.Return}[r.Intn(2)]]
		}
		p.Code[i] = api.Ins{Op: s.op, D: kind(s.d), A: kind(s.a), B: kind(s.b)}
	}
	return p
}

func anyArgs(r *rand.Rand, params int) []int {
	args := make([]int, params)
	for i := range args {
		args[i] = values[r.Intn(len(values))]
	}
	return args
}

func TestP6ByTheTable(t *testing.T) {
	r := rand.New(rand.NewSource(6))
	ended := [3]int{}
	for i := 0; i < 60000; i++ {
		p := anyProg(r)
		args := anyArgs(r, p.Params)
		fuel := r.Intn(200)
		want := byTheTable(p, args, fuel)
		ended[want.End]++
		wantRun(t, p, args, fuel, want)
	}
	for end, count := range ended {
		if count < 1000 {
			t.Errorf("only %d runs that ended as %d", count, end)
		}
	}
}

// With more fuel a run does the same, and then more.
func TestP6MoreFuel(t *testing.T) {
	r := rand.New(rand.NewSource(66))
	for i := 0; i < 3000; i++ {
		p := anyProg(r)
		args := anyArgs(r, p.Params)
		last, _ := Run(p, args, 0)
		for fuel := 1; fuel < 60; fuel++ {
			now, err := Run(p, args, fuel)
			if err != api.OK || now.Steps > fuel || len(now.Outs) < len(last.Outs) || len(now.Stops) < len(last.Stops) {
				t.Fatalf("Run(%+v, %v, %d) = %+v, %d; with less fuel %+v", p, args, fuel, now, err, last)
			}
			if last.End != api.Spent && !alike(now, last) {
				t.Fatalf("Run(%+v, %v, %d) = %+v, though it had ended as %+v", p, args, fuel, now, last)
			}
			if last.End == api.Spent && now.Steps != last.Steps+1 {
				t.Fatalf("Run(%+v, %v, %d) did %d steps", p, args, fuel, now.Steps)
			}
			last = now
		}
	}
}

// The code, the args and the room around both are as they were, at right calls and at wrong ones.
func TestP2RunLeavesWhatItIsGiven(t *testing.T) {
	r := rand.New(rand.NewSource(2))
	for i := 0; i < 3000; i++ {
		p := anyProg(r)
		args := anyArgs(r, p.Params)
		fuel := 100
		switch i % 4 {
		case 1:
			fuel = -1
		case 2:
			p.Code[len(p.Code)-1].Op = 99
		case 3:
			args = append(args, 70000)
		}
		codeRoom := slices.Concat(returns(3), p.Code, returns(50))
		argRoom := slices.Concat([]int{7, 8}, args, make([]int, 20))
		codeBefore, argsBefore := slices.Clone(codeRoom), slices.Clone(argRoom)
		p.Code = codeRoom[3 : 3+len(p.Code)]
		Run(p, argRoom[2:2+len(args)], fuel)
		if !slices.Equal(codeRoom, codeBefore) || !slices.Equal(argRoom, argsBefore) {
			t.Fatalf("Run(%+v, %v, %d) has written into what it was given", p, args, fuel)
		}
	}
}

// fill writes into a result as its owner may: into its lists and into the room behind them.
func fill(r api.Result) {
	outs := r.Outs[:cap(r.Outs)]
	for i := range outs {
		outs[i] = -9
	}
	stops := r.Stops[:cap(r.Stops)]
	for i := range stops {
		stops[i] = api.Seen{Stop: -9, Vars: [4]int{-9, -9, -9, -9}}
	}
}

func copyOf(r api.Result) api.Result {
	r.Outs, r.Stops = slices.Clone(r.Outs), slices.Clone(r.Stops)
	return r
}

func TestP2ResultsAreTheCallers(t *testing.T) {
	r := rand.New(rand.NewSource(22))
	for i := 0; i < 2000; i++ {
		p := anyProg(r)
		args := anyArgs(r, p.Params)
		other := anyProg(r)
		otherArgs := anyArgs(r, other.Params)
		first, _ := Run(p, args, 100)
		kept := copyOf(first)
		beside, _ := Run(other, otherArgs, 100)
		fill(beside)
		if !alike(first, kept) {
			t.Fatalf("a later call, or writing into its lists, has changed a result of %+v", p)
		}
		fill(first)
		wantRun(t, p, args, 100, kept)
		// What was handed in may be changed behind the call.
		second, _ := Run(p, args, 100)
		for j := range p.Code {
			p.Code[j] = api.Ins{}
		}
		for j := range args {
			args[j] = -1
		}
		if !alike(second, kept) {
			t.Fatalf("a result hangs on what was handed in: %+v", second)
		}
	}
}

// The answer hangs on the arguments alone: no call leaves anything behind, whatever it ends with.
func TestP2NothingIsKept(t *testing.T) {
	p := prog(0, 12, 4, one(api.Stop, 1), one(api.Out, 0), one(api.Out, 5), one(api.Out, 11), one(api.Return, 11))
	want := api.Result{Steps: 5, Outs: []int{0, 0, 0}, Stops: []api.Seen{see(1)}}
	full := prog(0, 12, 4, two(api.Const, 0, 1), two(api.Const, 5, 1), two(api.Const, 11, 1), two(api.Tie, 0, 1), two(api.Tie, 3, 1), one(api.Stop, 2), one(api.Out, 0), three(api.Div, 0, 0, 1), one(api.Return, 0))
	for fuel := -1; fuel < 12; fuel++ {
		Run(full, nil, fuel)
		wantRun(t, p, nil, 100, want)
	}
}
