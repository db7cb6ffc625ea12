package mach

import (
	"math"
	"math/rand"
	"reflect"
	"slices"
	"testing"

	"lodge/api"
	"lodge/leb"
)

func two(op, d, a int) api.Ins { return api.Ins{Op: op, D: d, A: a} }

func three(op, d, a, b int) api.Ins { return api.Ins{Op: op, D: d, A: a, B: b} }

func one(op, a int) api.Ins { return api.Ins{Op: op, A: a} }

func branch(a, target int) api.Ins { return api.Ins{Op: api.If, A: a, B: target} }

// loaded is a unit of three registers that loads its params, one or two, into the registers 0 and 1.
func loaded(params int, l ...api.Ins) api.Unit {
	u := unit(3, params, params, 0)
	for i := 0; i < params; i++ {
		u.Code = append(u.Code, two(api.Load, i, i))
	}
	u.Code = append(u.Code, l...)
	return u
}

// see is what is told at a Stop, of the variables from 0 on; of the others nothing is.
func see(number int, vars ...int) api.Seen {
	s := api.Seen{Stop: number, Vars: [4]int{-1, -1, -1, -1}}
	copy(s.Vars[:], vars)
	return s
}

func alike(a, b api.Result) bool {
	return a.End == b.End && a.Value == b.Value && a.Steps == b.Steps && slices.Equal(a.Outs, b.Outs) && slices.Equal(a.Stops, b.Stops)
}

func wantRun(t *testing.T, u api.Unit, args []int, fuel int, want api.Result) {
	t.Helper()
	r, err := Run(u, args, fuel)
	if err != api.OK || !alike(r, want) {
		t.Errorf("Run(%+v, %v, %d) = %+v, %d; want %+v, OK", u, args, fuel, r, err, want)
	}
}

// wantNoRun: an error, and beside it a result that is zero in each field.
func wantNoRun(t *testing.T, u api.Unit, args []int, fuel int, want api.Errno) {
	t.Helper()
	r, err := Run(u, args, fuel)
	if err != want || !reflect.DeepEqual(r, api.Result{}) {
		t.Errorf("Run(%+v, %v, %d) = %+v, %d; want nothing, %d", u, args, fuel, r, err, want)
	}
}

var values = []int{0, 1, 2, 3, 7, 9, 255, 256, 257, 32767, 32768, 32769, 65533, 65534, 65535}

// answer is what an Op of the arithmetic makes of a and b.
func answer(op, a, b int) int {
	x, y := uint16(a), uint16(b)
	switch op {
	case api.Add:
		return int(x + y)
	case api.Sub:
		return int(x - y)
	case api.Mul:
		return int(x * y)
	case api.Div:
		return int(x / y)
	}
	if x < y {
		return 1
	}
	return 0
}

func TestP8Arithmetic(t *testing.T) {
	for _, op := range []int{api.Add, api.Sub, api.Mul, api.Div, api.Less} {
		u := loaded(2, three(op, 2, 0, 1), one(api.Out, 0), one(api.Out, 1), one(api.Return, 2))
		for _, a := range values {
			for _, b := range values {
				if op == api.Div && b == 0 {
					wantRun(t, u, []int{a, b}, 9, api.Result{End: api.Trapped, Steps: 3})
					continue
				}
				wantRun(t, u, []int{a, b}, 9, api.Result{Value: answer(op, a, b), Steps: 6, Outs: []int{a, b}})
			}
		}
	}
}

func TestP8ArithmeticByHand(t *testing.T) {
	for _, c := range []struct{ op, a, b, want int }{
		{api.Add, 3, 4, 7},
		{api.Add, 65535, 1, 0},
		{api.Sub, 4, 3, 1},
		{api.Sub, 3, 4, 65535},
		{api.Mul, 6, 7, 42},
		{api.Mul, 256, 256, 0},
		{api.Mul, 65535, 65535, 1},
		{api.Mul, 46341, 46341, 4633},
		{api.Div, 7, 2, 3},
		{api.Div, 65535, 1, 65535},
		{api.Less, 4, 5, 1},
		{api.Less, 5, 5, 0},
		{api.Less, 65535, 0, 0},
	} {
		u := loaded(2, three(c.op, 0, 0, 1), one(api.Return, 0))
		wantRun(t, u, []int{c.a, c.b}, 9, api.Result{Value: c.want, Steps: 4})
	}
}

// D may be A, or B, or both: A and B are read ahead.
func TestP8FieldsThatAreTheSameRegister(t *testing.T) {
	for _, op := range []int{api.Add, api.Sub, api.Mul, api.Div, api.Less} {
		into := func(d, a, b int) api.Unit { return loaded(2, three(op, d, a, b), one(api.Return, d)) }
		for _, a := range values[1:] {
			for _, b := range values[1:] {
				wantRun(t, into(0, 0, 1), []int{a, b}, 9, api.Result{Value: answer(op, a, b), Steps: 4})
				wantRun(t, into(1, 0, 1), []int{a, b}, 9, api.Result{Value: answer(op, a, b), Steps: 4})
				wantRun(t, into(0, 1, 0), []int{a, b}, 9, api.Result{Value: answer(op, b, a), Steps: 4})
				wantRun(t, into(0, 0, 0), []int{a, b}, 9, api.Result{Value: answer(op, a, a), Steps: 4})
				wantRun(t, into(0, 1, 1), []int{a, b}, 9, api.Result{Value: answer(op, b, b), Steps: 4})
			}
		}
	}
}

func TestP8ConstAndCopy(t *testing.T) {
	for _, n := range values {
		wantRun(t, loaded(1, two(api.Const, 1, n), one(api.Out, 1), one(api.Return, 0)), []int{5}, 9, api.Result{Value: 5, Steps: 4, Outs: []int{n}})
		wantRun(t, loaded(1, two(api.Copy, 1, 0), one(api.Out, 0), one(api.Return, 1)), []int{n}, 9, api.Result{Value: n, Steps: 4, Outs: []int{n}})
	}
	// A copy stays when that which it was made of changes.
	wantRun(t, loaded(1, two(api.Copy, 1, 0), two(api.Const, 0, 3), one(api.Out, 0), one(api.Return, 1)), []int{8}, 9, api.Result{Value: 8, Steps: 5, Outs: []int{3}})
}

func TestP8LoadAndStore(t *testing.T) {
	for _, n := range values {
		// Through each slot and each register: a Store into a slot, and a Load from it, leave all others as they are.
		for slot := 0; slot < 16; slot++ {
			from, into := slot, (slot+1+n)%16
			u := unit(16, 16, 0, 0, two(api.Const, from, n), two(api.Store, slot, from), two(api.Const, from, 1), two(api.Load, into, slot), one(api.Return, into))
			want := api.Result{Value: n, Steps: 5}
			wantRun(t, u, nil, 9, want)
			for other := 0; other < 16; other++ {
				if other == slot {
					continue
				}
				u.Code[4] = two(api.Load, into, other)
				u.Code = append(u.Code[:5:5], one(api.Return, into))
				wantRun(t, u, nil, 9, api.Result{Steps: 6})
			}
		}
	}
	// A slot keeps what it was given, whatever is done to the register; a register too, whatever is done to the slot.
	u := unit(2, 2, 1, 0, two(api.Load, 0, 0), two(api.Store, 1, 0), two(api.Const, 0, 4), two(api.Load, 1, 1), two(api.Store, 1, 0), one(api.Out, 1), two(api.Load, 1, 1), one(api.Out, 1), two(api.Load, 0, 0), one(api.Return, 0))
	wantRun(t, u, []int{9}, 100, api.Result{Value: 9, Steps: 10, Outs: []int{9, 4}})
	// A slot in which an arg lay is a slot like any other.
	u = unit(2, 1, 1, 0, two(api.Load, 1, 0), two(api.Store, 0, 0), one(api.Out, 1), two(api.Load, 1, 0), one(api.Return, 1))
	wantRun(t, u, []int{9}, 100, api.Result{Steps: 5, Outs: []int{9}})
}

// The args lie in the first slots; all other slots and all registers hold 0.
func TestP8Start(t *testing.T) {
	for params := 0; params <= 4; params++ {
		args := []int{65535, 300, 1, 8}[:params]
		u := unit(16, 16, params, 4, one(api.Stop, 5))
		want := api.Result{Steps: 50, Stops: []api.Seen{see(5)}, Outs: make([]int, 32)}
		for i := 0; i < 16; i++ {
			u.Code = append(u.Code, one(api.Out, i))
		}
		for i := 0; i < 16; i++ {
			u.Code = append(u.Code, two(api.Load, 15, i), one(api.Out, 15))
		}
		copy(want.Outs[16:], args)
		u.Code = append(u.Code, one(api.Return, 0))
		wantRun(t, u, args, 100, want)
	}
}

func TestP8DivisionByZero(t *testing.T) {
	// What was put out and told ahead of it stays; what stands behind it is not done.
	u := loaded(1, one(api.Out, 0), one(api.Stop, 3), three(api.Div, 0, 0, 1), one(api.Out, 0), one(api.Stop, 4), one(api.Return, 0))
	u.Vars = 1
	u = with(u, at(0, 0, 7, api.InReg, 0))
	want := api.Result{End: api.Trapped, Steps: 4, Outs: []int{9}, Stops: []api.Seen{see(3, 9)}}
	wantRun(t, u, []int{9}, 100000, want)
	wantRun(t, u, []int{9}, 4, want)
	wantRun(t, u, []int{9}, 3, api.Result{End: api.Spent, Steps: 3, Outs: []int{9}, Stops: []api.Seen{see(3, 9)}})
	wantRun(t, unit(2, 0, 0, 0, three(api.Div, 0, 0, 0), one(api.Return, 0)), nil, 9, api.Result{End: api.Trapped, Steps: 1})
}

func TestP8JumpsBackAndAhead(t *testing.T) {
	ahead := loaded(1, one(api.Jump, 3), one(api.Out, 0), one(api.Jump, 5), one(api.Out, 0), one(api.Return, 0))
	wantRun(t, ahead, []int{6}, 9, api.Result{Value: 6, Steps: 4})
	back := loaded(1, one(api.Jump, 4), one(api.Out, 0), one(api.Return, 0), one(api.Jump, 2))
	wantRun(t, back, []int{6}, 9, api.Result{Value: 6, Steps: 5, Outs: []int{6}})
	next := loaded(1, one(api.Jump, 2), branch(0, 3), one(api.Return, 0))
	wantRun(t, next, []int{6}, 9, api.Result{Value: 6, Steps: 4})
	wantRun(t, next, []int{0}, 9, api.Result{Steps: 4})
	self := loaded(1, branch(0, 1), one(api.Return, 0))
	wantRun(t, self, []int{0}, 9, api.Result{Steps: 3})
	wantRun(t, self, []int{1}, 9, api.Result{End: api.Spent, Steps: 9})
	either := loaded(1, branch(0, 3), one(api.Return, 0), one(api.Out, 0), one(api.Jump, 2))
	wantRun(t, either, []int{0}, 9, api.Result{Steps: 3})
	wantRun(t, either, []int{65535}, 9, api.Result{Value: 65535, Steps: 5, Outs: []int{65535}})
	toTheFirst := unit(2, 1, 1, 0, two(api.Load, 0, 0), branch(0, 3), one(api.Return, 1), two(api.Store, 0, 1), two(api.Const, 1, 7), one(api.Jump, 0))
	wantRun(t, toTheFirst, []int{5}, 99, api.Result{Value: 7, Steps: 8})
}

// down counts down from its arg: it puts out each number, and at each it is looked at, in the register and in the slot.
var down = with(unit(2, 1, 1, 4,
	two(api.Load, 0, 0), two(api.Const, 1, 1), one(api.Out, 0), one(api.Stop, 2), three(api.Sub, 0, 0, 1), branch(0, 2), one(api.Return, 0)),
	at(0, 2, 4, api.InReg, 0), at(1, 0, 7, api.InSlot, 0), at(3, 3, 4, api.IsConst, 500))

func TestP8Fuel(t *testing.T) {
	outs := []int{3, 2, 1}
	stops := []api.Seen{see(2, 3, 3, -1, 500), see(2, 2, 3, -1, 500), see(2, 1, 3, -1, 500)}
	for fuel := 0; fuel < 15; fuel++ {
		// Load, Const, and then Out, Stop, Sub, If in each of three rounds.
		want := api.Result{End: api.Spent, Steps: fuel}
		want.Outs = outs[:min(3, max(0, fuel+1)/4)]
		want.Stops = stops[:min(3, fuel/4)]
		wantRun(t, down, []int{3}, fuel, want)
	}
	whole := api.Result{Steps: 15, Outs: outs, Stops: stops}
	wantRun(t, down, []int{3}, 15, whole)
	wantRun(t, down, []int{3}, 16, whole)
	wantRun(t, down, []int{3}, 100000, whole)
	wantRun(t, unit(2, 0, 0, 0, one(api.Return, 1)), nil, 0, api.Result{End: api.Spent})
	wantRun(t, unit(2, 0, 0, 0, one(api.Return, 1)), nil, 1, api.Result{Steps: 1})
	wantRun(t, unit(2, 0, 0, 0, one(api.Jump, 0)), nil, 99999, api.Result{End: api.Spent, Steps: 99999})
	wantRun(t, unit(2, 0, 0, 0, one(api.Jump, 0)), nil, 100000, api.Result{End: api.Spent, Steps: 100000})
}

// All fuel goes into Outs and Stops, with as many ranges as there may be: the lists grow as long as they can.
func TestP8LongLists(t *testing.T) {
	l := []api.Range{}
	for i := 0; i < 200; i++ {
		l = append(l, at(i/50, i%50*3, i%50*3+2, api.InSlot, i%2))
	}
	u := unit(2, 2, 2, 4, append([]api.Ins{one(api.Stop, 99), one(api.Out, 0), one(api.Jump, 0)}, returns(147)...)...)
	r, err := Run(with(u, l...), []int{6, 7}, 100000)
	if err != api.OK || r.End != api.Spent || r.Steps != 100000 || len(r.Stops) != 33334 || len(r.Outs) != 33333 {
		t.Fatalf("%d Stops and %d Outs, %d steps, End %d, %d", len(r.Stops), len(r.Outs), r.Steps, r.End, err)
	}
	for i := range r.Stops {
		if r.Stops[i] != see(99, 6, 6, 6, 6) {
			t.Fatalf("Stop %d is %v", i, r.Stops[i])
		}
	}
}

// stops is a unit of nothing but Stops, with a Return behind them; register 1 holds 0, slot 0 the arg, slot 1 holds 0.
func stops(count, vars int, l ...api.Range) api.Unit {
	u := unit(2, 2, 1, vars, two(api.Load, 0, 0))
	for i := 1; i < count-1; i++ {
		u.Code = append(u.Code, one(api.Stop, i%100))
	}
	u.Code = append(u.Code, one(api.Return, 0))
	return with(u, l...)
}

// A range is asked from its first instruction to its last, and neither ahead of the one nor behind the other.
func TestP8EdgesOfRanges(t *testing.T) {
	const count = 12
	for kind, told := range []int{9, 9, 0} {
		for v := 0; v < 4; v++ {
			for from := 0; from < count; from++ {
				for to := from + 1; to <= count; to++ {
					want := api.Result{Value: 9, Steps: count}
					for i := 1; i < count-1; i++ {
						s := see(i)
						if from <= i && i < to {
							s.Vars[v] = told
						}
						want.Stops = append(want.Stops, s)
					}
					wantRun(t, stops(count, 4, at(v, from, to, kind, 0)), []int{9}, 100, want)
				}
			}
		}
	}
}

func TestP8EdgesOfRangesInALongUnit(t *testing.T) {
	u := stops(164, 1, at(0, 127, 129, api.IsConst, 65535), at(0, 129, 162, api.InReg, 0), at(0, 162, 164, api.InSlot, 1))
	want := api.Result{Value: 9, Steps: 164}
	for i := 1; i < 163; i++ {
		s := see(i % 100)
		switch {
		case i >= 162:
			s.Vars[0] = 0
		case i >= 129:
			s.Vars[0] = 9
		case i >= 127:
			s.Vars[0] = 65535
		}
		want.Stops = append(want.Stops, s)
	}
	wantRun(t, u, []int{9}, 1000, want)
}

// What is told is what the place holds at the Stop, not what it held where the range began.
func TestP8WhatIsHeldNow(t *testing.T) {
	u := with(unit(2, 2, 1, 4,
		one(api.Stop, 0),
		two(api.Load, 1, 0), one(api.Stop, 1),
		two(api.Const, 1, 7), one(api.Stop, 2),
		two(api.Store, 1, 1), one(api.Stop, 3),
		two(api.Const, 1, 8), two(api.Store, 0, 1), one(api.Stop, 4),
		one(api.Return, 0)),
		at(0, 0, 11, api.InReg, 1), at(1, 0, 11, api.InSlot, 0), at(2, 0, 11, api.InSlot, 1), at(3, 0, 11, api.IsConst, 1))
	wantRun(t, u, []int{6}, 100, api.Result{Steps: 11, Stops: []api.Seen{
		see(0, 0, 6, 0, 1), see(1, 6, 6, 0, 1), see(2, 7, 6, 0, 1), see(3, 7, 6, 7, 1), see(4, 8, 8, 7, 1),
	}})
}

// Each register and each slot is told by its number, and a constant by its value.
func TestP8EachPlace(t *testing.T) {
	for n := 0; n < 16; n++ {
		u := unit(16, 16, 0, 4)
		for i := 0; i < 16; i++ {
			u.Code = append(u.Code, two(api.Const, i, 200+i), two(api.Store, i, i))
		}
		for i := 0; i < 16; i++ {
			u.Code = append(u.Code, two(api.Const, i, 100+i))
		}
		u.Code = append(u.Code, one(api.Stop, n), one(api.Return, 15))
		u = with(u, at(0, 48, 49, api.InReg, n), at(1, 48, 49, api.InSlot, n), at(2, 48, 49, api.IsConst, n))
		wantRun(t, u, nil, 100, api.Result{Value: 115, Steps: 50, Stops: []api.Seen{see(n, 100+n, 200+n, n)}})
	}
	for _, n := range values {
		u := with(unit(2, 0, 0, 1, one(api.Stop, 1), one(api.Return, 0)), at(0, 0, 1, api.IsConst, n))
		wantRun(t, u, nil, 100, api.Result{Steps: 2, Stops: []api.Seen{see(1, n)}})
	}
}

// Each Stop of a run is asked for at its own place, also when the run comes by again.
func TestP8StopsInALoop(t *testing.T) {
	u := with(unit(2, 1, 1, 2,
		two(api.Load, 0, 0), two(api.Const, 1, 1), one(api.Stop, 1), three(api.Sub, 0, 0, 1), one(api.Stop, 1), branch(0, 2), one(api.Stop, 3), one(api.Return, 1)),
		at(0, 2, 3, api.InReg, 0), at(0, 4, 5, api.InReg, 1), at(1, 3, 7, api.InReg, 0))
	wantRun(t, u, []int{2}, 100, api.Result{Value: 1, Steps: 12, Stops: []api.Seen{
		see(1, 2), see(1, 1, 1), see(1, 1), see(1, 1, 0), see(3, -1, 0),
	}})
}

// Of the variables that a unit does not have, -1 is told.
func TestP8VariablesFromVarsOn(t *testing.T) {
	for vars := 0; vars <= 4; vars++ {
		l := []api.Range{}
		want := see(1)
		for v := 0; v < vars; v++ {
			l = append(l, at(v, 0, 2, api.IsConst, 10+v))
			want.Vars[v] = 10 + v
		}
		wantRun(t, with(unit(2, 0, 0, vars, one(api.Stop, 1), one(api.Return, 0)), l...), nil, 100, api.Result{Steps: 2, Stops: []api.Seen{want}})
	}
}

// Fields that an Op does not have are not looked at.
func TestP8FieldsThatAnOpDoesNotHave(t *testing.T) {
	for _, n := range ends {
		u := with(unit(2, 2, 1, 1,
			api.Ins{Op: api.Load, D: 0, A: 0, B: n}, api.Ins{Op: api.Const, D: 1, A: 4, B: n}, api.Ins{Op: api.Store, D: 1, A: 1, B: n}, api.Ins{Op: api.Copy, D: 1, A: 0, B: n},
			api.Ins{Op: api.Stop, D: n, A: 1, B: n}, api.Ins{Op: api.If, D: n, A: 0, B: 7}, api.Ins{Op: api.Return, D: n, A: 1, B: n},
			api.Ins{Op: api.Out, D: n, A: 1, B: n}, api.Ins{Op: api.Jump, D: n, A: 6, B: n}), at(0, 4, 5, api.InSlot, 1))
		wantRun(t, u, []int{6}, 100, api.Result{Value: 6, Steps: 9, Outs: []int{6}, Stops: []api.Seen{see(1, 4)}})
	}
}

func TestP1P8WrongUnits(t *testing.T) {
	ret := one(api.Return, 0)
	for _, c := range []struct {
		u   api.Unit
		err api.Errno
	}{
		{api.Unit{}, api.ErrSize},
		{unit(2, 0, 0, 0), api.ErrSize},
		{unit(1, 0, 0, 0, ret), api.ErrSize},
		{unit(17, 0, 0, 0, ret), api.ErrSize},
		{unit(2, 17, 0, 0, ret), api.ErrSize},
		{unit(2, 0, 1, 0, ret), api.ErrSize},
		{unit(2, 0, 0, 5, ret), api.ErrSize},
		{unit(math.MaxInt, math.MaxInt, math.MaxInt, math.MaxInt, ret), api.ErrSize},
		{unit(2, 0, math.MinInt, 0, ret), api.ErrSize},
		{unit(2, 0, 0, 0, returns(165)...), api.ErrSize},
		{unit(2, 0, 0, 0, ret, one(99, 0), ret), api.ErrOp},
		{unit(2, 0, 0, 4, one(api.Bind, 0), ret), api.ErrOp},
		{unit(2, 0, 0, 0, ret, one(api.Return, 2)), api.ErrReg},
		{unit(2, 0, 0, 0, one(api.Const, 65536), ret), api.ErrConst},
		{unit(2, 0, 0, 0, one(api.Jump, 1)), api.ErrTarget},
		{unit(2, 0, 0, 0, one(api.Stop, 100), ret), api.ErrStop},
		{unit(2, 1, 0, 0, one(api.Load, 1), ret), api.ErrSlot},
		{unit(2, 0, 0, 0, one(api.Out, 0)), api.ErrEnd},
		{api.Unit{K: 2, Code: returns(1)}, api.ErrTable},
		{with(unit(2, 0, 0, 0, ret), at(0, 0, 1, api.IsConst, 0)), api.ErrTable},
		{with(unit(2, 0, 0, 1, ret), at(0, 0, 2, api.IsConst, 0)), api.ErrTable},
		{with(unit(2, 0, 0, 1, ret), at(0, 0, 1, api.InReg, 2)), api.ErrTable},
		{with(unit(2, 0, 0, 1, ret), at(0, 0, 1, api.InSlot, 0)), api.ErrTable},
	} {
		// Right args and fuel, and wrong ones: the unit comes first.
		wantNoRun(t, c.u, nil, 5, c.err)
		wantNoRun(t, c.u, []int{-1}, -1, c.err)
		wantNoRun(t, c.u, nil, 100001, c.err)
	}
}

func TestP1P8WrongArgs(t *testing.T) {
	for params := 0; params <= 4; params++ {
		u := unit(2, 4, params, 0, one(api.Out, 0), one(api.Return, 0))
		for count := 0; count <= 20; count++ {
			if count == params {
				continue
			}
			for _, fuel := range []int{0, 5, 100000, -1, 100001} {
				wantNoRun(t, u, make([]int, count), fuel, api.ErrArgs)
			}
		}
		for i := 0; i < params; i++ {
			for _, n := range ends {
				args := make([]int, params)
				args[i] = n
				for _, fuel := range []int{0, 5, 100000, -1, 100001} {
					wantNoRun(t, u, args, fuel, api.ErrArgs)
				}
			}
		}
	}
	wantNoRun(t, unit(2, 0, 0, 0, one(api.Return, 0)), make([]int, 100000), 5, api.ErrArgs)
}

func TestP1P8WrongFuels(t *testing.T) {
	for _, fuel := range []int{-1, -2, -100000, math.MinInt32, math.MinInt, 100001, 100002, math.MaxInt32, math.MaxInt} {
		wantNoRun(t, down, []int{3}, fuel, api.ErrFuel)
		wantNoRun(t, unit(2, 0, 0, 0, one(api.Return, 0)), nil, fuel, api.ErrFuel)
	}
}

func TestP8NilArgsAndNoArgs(t *testing.T) {
	u := unit(2, 0, 0, 0, one(api.Return, 0))
	wantRun(t, u, nil, 5, api.Result{Steps: 1})
	wantRun(t, u, []int{}, 5, api.Result{Steps: 1})
}

func TestP8Example(t *testing.T) {
	u := unit(2, 2, 2, 0, two(api.Load, 0, 0), two(api.Load, 1, 1), three(api.Add, 0, 0, 1), one(api.Return, 0))
	wantCheck(t, u, api.OK, 0)
	wantRun(t, u, []int{3, 4}, 9, api.Result{Value: 7, Steps: 4})
	wantRun(t, u, []int{65535, 2}, 4, api.Result{Value: 1, Steps: 4})
	wantRun(t, u, []int{3, 4}, 3, api.Result{End: api.Spent, Steps: 3})
}

// byTheTable runs a unit by the document's table: registers and slots of 16 bits, and at a Stop the ranges, one variable after the other.
func byTheTable(u api.Unit, ranges []api.Range, args []int, fuel int) api.Result {
	regs, slots := map[int]uint16{}, map[int]uint16{}
	for i, a := range args {
		slots[i] = uint16(a)
	}
	r := api.Result{End: api.Spent}
	for at := 0; fuel > 0; fuel-- {
		x, i := u.Code[at], at
		r.Steps, at = r.Steps+1, at+1
		switch {
		case x.Op == api.Const:
			regs[x.D] = uint16(x.A)
		case x.Op == api.Copy:
			regs[x.D] = regs[x.A]
		case x.Op == api.Div && regs[x.B] == 0:
			r.End = api.Trapped
			return r
		case x.Op >= api.Add && x.Op <= api.Less:
			regs[x.D] = uint16(answer(x.Op, int(regs[x.A]), int(regs[x.B])))
		case x.Op == api.Jump:
			at = x.A
		case x.Op == api.If && regs[x.A] != 0:
			at = x.B
		case x.Op == api.Out:
			r.Outs = append(r.Outs, int(regs[x.A]))
		case x.Op == api.Return:
			r.End, r.Value = api.Returned, int(regs[x.A])
			return r
		case x.Op == api.Load:
			regs[x.D] = slots[x.A]
		case x.Op == api.Store:
			slots[x.D] = regs[x.A]
		case x.Op == api.Stop:
			s := see(x.A)
			for v := 0; v < 4; v++ {
				n := slices.IndexFunc(ranges, func(g api.Range) bool { return g.Var == v && g.From <= i && i < g.To })
				switch {
				case n < 0:
				case ranges[n].Kind == api.InReg:
					s.Vars[v] = int(regs[ranges[n].At])
				case ranges[n].Kind == api.InSlot:
					s.Vars[v] = int(slots[ranges[n].At])
				default:
					s.Vars[v] = ranges[n].At
				}
			}
			r.Stops = append(r.Stops, s)
		}
	}
	return r
}

// anyRanges is a table that is right for the unit.
func anyRanges(r *rand.Rand, u api.Unit) []api.Range {
	l := []api.Range{}
	for v := 0; v < u.Vars; v++ {
		for from := r.Intn(4); from < len(u.Code); from += 1 + r.Intn(9) {
			to := min(len(u.Code), from+1+r.Intn(6))
			g := at(v, from, to, r.Intn(3), 0)
			switch {
			case g.Kind == api.InReg:
				g.At = r.Intn(u.K)
			case g.Kind == api.InSlot && u.Slots > 0:
				g.At = r.Intn(u.Slots)
			default:
				g.Kind, g.At = api.IsConst, values[r.Intn(len(values))]
			}
			if n := len(l); n > 0 && l[n-1].Var == v && l[n-1].To >= from {
				if l[n-1].To > from || l[n-1].Kind == g.Kind && l[n-1].At == g.At {
					continue
				}
			}
			l = append(l, g)
		}
	}
	return l
}

// anyUnit is a unit that Check finds right, and its table read.
func anyUnit(r *rand.Rand) (api.Unit, []api.Range) {
	k, slots, count := 2+r.Intn(15), r.Intn(17), 1+r.Intn(40)
	if r.Intn(10) == 0 {
		count = 1 + r.Intn(164)
	}
	u := unit(k, slots, r.Intn(min(slots, 4)+1), r.Intn(5), make([]api.Ins, count)...)
	kind := func(name string) int {
		switch name {
		case "register":
			return r.Intn(k)
		case "constant":
			return values[r.Intn(len(values))]
		case "target":
			return r.Intn(count)
		case "number":
			return r.Intn(100)
		case "slot":
			return r.Intn(slots)
		}
		return ends[r.Intn(len(ends))]
	}
	for i := range u.Code {
		ops := len(shapes)
		if slots == 0 {
			ops -= 2
		}
		s := shapes[r.Intn(ops)]
		if s.op == api.Return && r.Intn(3) > 0 {
			s = shapes[api.Stop]
		}
		if i == count-1 {
			s = shapes[[]int{api.Jump, api.Return}[r.Intn(2)]]
		}
		u.Code[i] = api.Ins{Op: s.op, D: kind(s.d), A: kind(s.a), B: kind(s.b)}
	}
	l := anyRanges(r, u)
	return with(u, l...), l
}

func anyArgs(r *rand.Rand, params int) []int {
	args := make([]int, params)
	for i := range args {
		args[i] = values[r.Intn(len(values))]
	}
	return args
}

func TestP8ByTheTable(t *testing.T) {
	r := rand.New(rand.NewSource(8))
	ended := [3]int{}
	told := 0
	for i := 0; i < 50000; i++ {
		u, l := anyUnit(r)
		args := anyArgs(r, u.Params)
		fuel := r.Intn(200)
		want := byTheTable(u, l, args, fuel)
		ended[want.End]++
		for _, s := range want.Stops {
			if s.Vars[0] >= 0 {
				told++
			}
		}
		wantRun(t, u, args, fuel, want)
	}
	for end, count := range ended {
		if count < 1000 {
			t.Errorf("only %d runs that ended as %d", count, end)
		}
	}
	if told < 10000 {
		t.Errorf("only %d times a value was told", told)
	}
}

// With more fuel a run does the same, and then more.
func TestP8MoreFuel(t *testing.T) {
	r := rand.New(rand.NewSource(88))
	for i := 0; i < 2000; i++ {
		u, _ := anyUnit(r)
		args := anyArgs(r, u.Params)
		last, _ := Run(u, args, 0)
		for fuel := 1; fuel < 60; fuel++ {
			now, err := Run(u, args, fuel)
			if err != api.OK || now.Steps > fuel || len(now.Outs) < len(last.Outs) || len(now.Stops) < len(last.Stops) {
				t.Fatalf("Run(%+v, %v, %d) = %+v, %d; with less fuel %+v", u, args, fuel, now, err, last)
			}
			if last.End != api.Spent && !alike(now, last) {
				t.Fatalf("Run(%+v, %v, %d) = %+v, though it had ended as %+v", u, args, fuel, now, last)
			}
			if last.End == api.Spent && now.Steps != last.Steps+1 {
				t.Fatalf("Run(%+v, %v, %d) did %d steps", u, args, fuel, now.Steps)
			}
			last = now
		}
	}
}

// Whoever asks changes nothing: with another table the run does the same.
func TestP8TheTableChangesNoRun(t *testing.T) {
	r := rand.New(rand.NewSource(888))
	for i := 0; i < 3000; i++ {
		u, _ := anyUnit(r)
		args := anyArgs(r, u.Params)
		asked, _ := Run(u, args, 150)
		bare, err := Run(with(u), args, 150)
		for j := range asked.Stops {
			asked.Stops[j] = see(asked.Stops[j].Stop)
		}
		if err != api.OK || !alike(asked, bare) {
			t.Fatalf("Run(%+v, %v) hangs on the table", u, args)
		}
	}
}

// The code, the args and the room around both are as they were, at right calls and at wrong ones.
func TestP2RunLeavesWhatItIsGiven(t *testing.T) {
	r := rand.New(rand.NewSource(2))
	for i := 0; i < 3000; i++ {
		u, _ := anyUnit(r)
		args := anyArgs(r, u.Params)
		fuel := 100
		switch i % 5 {
		case 1:
			fuel = -1
		case 2:
			u.Code[len(u.Code)-1].Op = 99
		case 3:
			args = append(args, 70000)
		case 4:
			u.Table = ""
		}
		codeRoom := slices.Concat(returns(3), u.Code, returns(200))
		argRoom := slices.Concat([]int{7, 8}, args, make([]int, 20))
		codeBefore, argsBefore := slices.Clone(codeRoom), slices.Clone(argRoom)
		u.Code = codeRoom[3 : 3+len(u.Code)]
		Run(u, argRoom[2:2+len(args)], fuel)
		if !slices.Equal(codeRoom, codeBefore) || !slices.Equal(argRoom, argsBefore) {
			t.Fatalf("Run(%+v, %v, %d) has written into what it was given", u, args, fuel)
		}
	}
}

// fill writes into a result as its owner may: into its lists and into the room behind them.
func fill(r api.Result) {
	outs := r.Outs[:cap(r.Outs)]
	for i := range outs {
		outs[i] = -9
	}
	stops := r.Stops[:cap(r.Stops)]
	for i := range stops {
		stops[i] = api.Seen{Stop: -9, Vars: [4]int{-9, -9, -9, -9}}
	}
}

func copyOf(r api.Result) api.Result {
	r.Outs, r.Stops = slices.Clone(r.Outs), slices.Clone(r.Stops)
	return r
}

func TestP2ResultsAreTheCallers(t *testing.T) {
	r := rand.New(rand.NewSource(22))
	for i := 0; i < 2000; i++ {
		u, _ := anyUnit(r)
		args := anyArgs(r, u.Params)
		other, _ := anyUnit(r)
		otherArgs := anyArgs(r, other.Params)
		first, _ := Run(u, args, 100)
		kept := copyOf(first)
		beside, _ := Run(other, otherArgs, 100)
		fill(beside)
		if !alike(first, kept) {
			t.Fatalf("a later call, or writing into its lists, has changed a result of %+v", u)
		}
		fill(first)
		wantRun(t, u, args, 100, kept)
		// What was handed in may be changed behind the call.
		second, _ := Run(u, args, 100)
		for j := range u.Code {
			u.Code[j] = api.Ins{}
		}
		for j := range args {
			args[j] = -1
		}
		if !alike(second, kept) {
			t.Fatalf("a result hangs on what was handed in: %+v", second)
		}
	}
}

// The answer hangs on the arguments alone: no call leaves anything behind, whatever it ends with.
func TestP2NothingIsKept(t *testing.T) {
	u := with(unit(16, 16, 0, 4, one(api.Stop, 1), one(api.Out, 0), one(api.Out, 15), two(api.Load, 3, 0), one(api.Out, 3), two(api.Load, 3, 15), one(api.Return, 3)), at(1, 0, 1, api.InSlot, 0))
	want := api.Result{Steps: 7, Outs: []int{0, 0, 0}, Stops: []api.Seen{see(1, -1, 0)}}
	full := with(unit(16, 16, 1, 4, two(api.Const, 0, 1), two(api.Const, 15, 1), two(api.Store, 15, 0), one(api.Stop, 2), one(api.Out, 0), three(api.Div, 0, 0, 1), one(api.Return, 0)), at(0, 0, 7, api.IsConst, 5))
	for fuel := -1; fuel < 9; fuel++ {
		Run(full, []int{8}, fuel)
		wantRun(t, u, nil, 100, want)
	}
}

// The table that a run asks is the unit's own, however many runs there were.
func TestP2TablesAreReadAnew(t *testing.T) {
	first := stops(5, 1, at(0, 1, 3, api.InReg, 0))
	other := stops(5, 1, at(0, 2, 4, api.IsConst, 8))
	for i := 0; i < 3; i++ {
		wantRun(t, first, []int{4}, 9, api.Result{Value: 4, Steps: 5, Stops: []api.Seen{see(1, 4), see(2, 4), see(3)}})
		wantRun(t, other, []int{4}, 9, api.Result{Value: 4, Steps: 5, Stops: []api.Seen{see(1), see(2, 8), see(3, 8)}})
	}
	l, err := leb.Decode(first.Table)
	if err != api.OK || !slices.Equal(l, []api.Range{at(0, 1, 3, api.InReg, 0)}) {
		t.Errorf("the table has become %v, %d", l, err)
	}
}
