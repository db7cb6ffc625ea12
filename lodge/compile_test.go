package lodge_test

import (
	"math"
	"math/rand"
	"reflect"
	"slices"
	"strconv"
	"testing"

	"lodge/api"
	"lodge/ir"
	"lodge/leb"
	"lodge/lodge"
)

// wantError: an error, and beside it a unit that is zero in each field.
func wantError(t *testing.T, p api.Prog, k int, want api.Errno) {
	t.Helper()
	u, err := lodge.Compile(p, k)
	if err != want || !reflect.DeepEqual(u, api.Unit{}) {
		t.Errorf("Compile(%+v, %d) = %s, %d; want nothing, %d", p, k, show(u), err, want)
	}
}

var wrongK = []int{math.MinInt, math.MinInt32, -16, -2, -1, 0, 1, 17, 18, 40, 65536, math.MaxInt32, math.MaxInt}

var wrong = []struct {
	p   api.Prog
	err api.Errno
}{
	{api.Prog{}, api.ErrSize},
	{prog(0, 1, 0), api.ErrSize},
	{prog(0, 0, 0, ret(0)), api.ErrSize},
	{prog(0, 13, 0, ret(0)), api.ErrSize},
	{prog(5, 12, 0, ret(0)), api.ErrSize},
	{prog(2, 1, 0, ret(0)), api.ErrSize},
	{prog(-1, 1, 0, ret(0)), api.ErrSize},
	{prog(0, 1, 5, ret(0)), api.ErrSize},
	{prog(0, 1, -1, ret(0)), api.ErrSize},
	{prog(math.MaxInt, math.MaxInt, math.MaxInt, ret(0)), api.ErrSize},
	{prog(math.MinInt, math.MinInt, math.MinInt, ret(0)), api.ErrSize},
	{prog(0, 1, 0, slices.Repeat([]api.Ins{ret(0)}, 41)...), api.ErrSize},
	{prog(0, 1, 0, slices.Repeat([]api.Ins{ret(0)}, 5000)...), api.ErrSize},
	{prog(0, 1, 0, ret(0), api.Ins{Op: 17}, ret(0)), api.ErrOp},
	{prog(0, 1, 0, api.Ins{Op: -1}, ret(0)), api.ErrOp},
	{prog(0, 1, 0, api.Ins{Op: api.Load}, ret(0)), api.ErrOp},
	{prog(0, 1, 0, api.Ins{Op: api.Store}, ret(0)), api.ErrOp},
	{prog(0, 1, 0, ret(1)), api.ErrReg},
	{prog(0, 12, 0, add(0, 0, 12), ret(0)), api.ErrReg},
	{prog(0, 1, 0, set(-1, 0), ret(0)), api.ErrReg},
	{prog(0, 1, 0, set(0, 65536), ret(0)), api.ErrConst},
	{prog(0, 1, 1, tie(0, -1), ret(0)), api.ErrConst},
	{prog(0, 1, 0, jump(1)), api.ErrTarget},
	{prog(0, 1, 0, branch(0, 40), ret(0)), api.ErrTarget},
	{prog(0, 1, 0, branch(0, -1), ret(0)), api.ErrTarget},
	{prog(0, 1, 0, stop(100), ret(0)), api.ErrStop},
	{prog(0, 1, 0, stop(-1), ret(0)), api.ErrStop},
	{prog(0, 1, 0, bind(0, 5), ret(0)), api.ErrVar},
	{prog(0, 1, 4, free(4), ret(0)), api.ErrVar},
	{prog(0, 1, 0, out(0)), api.ErrEnd},
	{prog(0, 1, 0, ret(0), branch(0, 0)), api.ErrEnd},
	{prog(0, 1, 1, ret(0), bind(0, 0)), api.ErrEnd},
}

func TestP1P9WrongPrograms(t *testing.T) {
	for _, c := range wrong {
		for k := -1; k <= 18; k++ {
			wantError(t, c.p, k, c.err)
		}
		for _, k := range wrongK {
			wantError(t, c.p, k, c.err)
		}
	}
}

func TestP1P9WrongK(t *testing.T) {
	r := rand.New(rand.NewSource(91))
	for _, k := range wrongK {
		wantError(t, prog(0, 1, 0, ret(0)), k, api.ErrK)
		for _, kind := range kinds {
			wantError(t, drawn(r, kind), k, api.ErrK)
		}
	}
}

func TestP9LeastAndGreatestK(t *testing.T) {
	for _, p := range []api.Prog{prog(0, 1, 0, ret(0)), prog(4, 12, 4, ret(11)), crowded(rand.New(rand.NewSource(1)), 4, 12)} {
		for k := 2; k <= 16; k++ {
			compile(t, p, k)
		}
	}
}

// Programs in which any number may stand anywhere: nothing panics, and the error is that of ir.Check, or ErrK.
func TestP1P9AnyNumbers(t *testing.T) {
	r := rand.New(rand.NewSource(92))
	odd := []int{math.MinInt, -65536, -1, 0, 1, 2, 4, 5, 11, 12, 13, 16, 17, 39, 40, 99, 100, 65535, 65536, math.MaxInt}
	any := func() int { return odd[r.Intn(len(odd))] }
	errs := map[api.Errno]int{}
	for range 20000 {
		p := drawn(r, kinds[r.Intn(len(kinds))])
		for range 1 + r.Intn(3) {
			x := &p.Code[r.Intn(len(p.Code))]
			switch r.Intn(10) {
			case 0:
				p.Params = any()
			case 1:
				p.Regs = any()
			case 2:
				p.Vars = any()
			case 3:
				x.Op = any()
			case 4, 5:
				x.D = any()
			case 6, 7:
				x.A = any()
			case 8, 9:
				x.B = any()
			}
		}
		k := any()
		want, _ := ir.Check(p)
		if want == api.OK && (k < 2 || k > 16) {
			want = api.ErrK
		}
		errs[want]++
		if want != api.OK {
			wantError(t, p, k, want)
			continue
		}
		compile(t, p, k)
	}
	for _, err := range []api.Errno{api.OK, api.ErrSize, api.ErrOp, api.ErrReg, api.ErrConst, api.ErrTarget, api.ErrStop, api.ErrVar, api.ErrEnd, api.ErrK} {
		wantSeen(t, "the error "+strconv.Itoa(int(err)), errs[err], 10)
	}
}

// fullOfRanges has four variables that are told at each Stop, elsewhere at each: as many ranges as can be.
func fullOfRanges() []api.Prog {
	apart := prog(4, 12, 4, tie(0, 65535), tie(1, 65534), tie(2, 65533), tie(3, 65532))
	both := prog(4, 12, 4, bind(0, 0), tie(1, 65534), bind(2, 2), tie(3, 65532))
	close := prog(4, 12, 4)
	turns := prog(4, 12, 4)
	for i := 4; i < 38; i += 2 {
		apart.Code = append(apart.Code, stop(i), out(i%12))
		both.Code = append(both.Code, stop(i), add(3, 0, 2))
	}
	for i := 0; i < 38; i += 2 {
		close.Code = append(close.Code, tie(i/2%4, 65535-i), stop(i))
		turns.Code = append(turns.Code, bind(i/2%4, (i+i/8)%4), stop(i))
	}
	apart.Code = append(apart.Code, stop(90), ret(11))
	both.Code = append(both.Code, stop(90), ret(3))
	close.Code = append(close.Code, stop(90), ret(3))
	turns.Code = append(turns.Code, branch(0, 0), branch(1, 0), branch(2, 0), ret(3))
	stops := prog(4, 12, 4, tie(0, 65535), bind(1, 3), tie(2, 0), bind(3, 3))
	for i := 0; i < 35; i++ {
		stops.Code = append(stops.Code, stop(i))
	}
	stops.Code = append(stops.Code, ret(3))
	turns.Code = turns.Code[2:]
	return []api.Prog{apart, both, close, turns, stops}
}

func TestP9P10P11P12FullOfRanges(t *testing.T) {
	r := rand.New(rand.NewSource(93))
	for i, p := range fullOfRanges() {
		if len(p.Code) != 40 {
			t.Fatalf("the program %d has %d instructions", i, len(p.Code))
		}
		seen := tally{}
		for range 5 {
			wantAll(t, r, p, &seen)
		}
		wantFew(t, p)
		wantSeen(t, "told", seen.tied+seen.bound, 10000)
		for k := 2; k <= 16; k++ {
			l, err := leb.Decode(compile(t, p, k).Table)
			if err != api.OK || len(l) == 0 || len(l) > 200 {
				t.Errorf("the program %d, k %d: %d ranges, %d", i, k, len(l), err)
			}
		}
	}
}

// The largest programs, with each instruction that is the longest in a unit.
func TestP9P10P11P12Largest(t *testing.T) {
	r := rand.New(rand.NewSource(94))
	seen := tally{}
	for range 10 {
		p := prog(4, 12, 4)
		order := r.Perm(12)
		for i := 0; i < 39; i++ {
			op := []int{api.Add, api.Sub, api.Mul, api.Less}[r.Intn(4)]
			p.Code = append(p.Code, reckon(op, order[i%12], order[(i+5)%12], order[(i+7)%12]))
		}
		p.Code = append(p.Code, ret(order[r.Intn(12)]))
		wantAll(t, r, p, &seen)
		wantFew(t, p)
	}
}

// The code and the room around it are as they were, at right calls and at wrong ones.
func TestP2LeavesWhatItIsGiven(t *testing.T) {
	r := rand.New(rand.NewSource(21))
	for i := range 3000 {
		p := drawn(r, kinds[i%len(kinds)])
		k := 2 + r.Intn(15)
		switch i % 7 {
		case 1:
			k = 1
		case 2:
			p.Code[len(p.Code)-1].Op = 99
		}
		room := slices.Concat([]api.Ins{ret(0), out(0)}, p.Code, slices.Repeat([]api.Ins{out(7)}, 200))
		before := slices.Clone(room)
		p.Code = room[2 : 2+len(p.Code)]
		lodge.Compile(p, k)
		if !slices.Equal(room, before) {
			t.Fatalf("Compile(%+v, %d) has written into what it was given", p, k)
		}
	}
}

func copyOf(u api.Unit) api.Unit {
	u.Code = slices.Clone(u.Code)
	return u
}

// fill writes into the code of a unit, and into the room behind it, as its owner may.
func fill(u api.Unit) {
	l := u.Code[:cap(u.Code)]
	for i := range l {
		l[i] = api.Ins{Op: -9, D: -9, A: -9, B: -9}
	}
}

func TestP2UnitsAreTheCallers(t *testing.T) {
	r := rand.New(rand.NewSource(22))
	for i := range 2000 {
		p, q := drawn(r, kinds[i%len(kinds)]), drawn(r, kinds[r.Intn(len(kinds))])
		k := 2 + r.Intn(15)
		u := compile(t, p, k)
		kept := copyOf(u)
		fill(compile(t, q, k))
		fill(compile(t, p, k))
		if !reflect.DeepEqual(u, kept) {
			t.Fatalf("a later call, or writing into its unit, has changed a unit of %+v", p)
		}
		fill(u)
		again := compile(t, p, k)
		if !reflect.DeepEqual(again, kept) {
			t.Fatalf("Compile(%+v, %d) = %s, and once %s", p, k, show(again), show(kept))
		}
		// What was handed in may be changed behind the call.
		for j := range p.Code {
			p.Code[j] = api.Ins{Op: -7}
		}
		if !reflect.DeepEqual(again, kept) {
			t.Fatalf("a unit hangs on what was handed in: %s", show(again))
		}
	}
}

// The answer hangs on the arguments alone: no call leaves anything behind, whatever it ends with.
func TestP2NothingIsKept(t *testing.T) {
	r := rand.New(rand.NewSource(23))
	p := prog(1, 2, 2, bind(0, 0), stop(1), tie(1, 4), stop(2), out(0), ret(1))
	for k := 2; k <= 16; k++ {
		want := compile(t, p, k)
		for _, c := range wrong {
			lodge.Compile(c.p, k)
			lodge.Compile(drawn(r, kinds[r.Intn(len(kinds))]), r.Intn(20))
			if u := compile(t, p, k); !reflect.DeepEqual(u, want) {
				t.Fatalf("Compile(%+v, %d) = %s, and once %s", p, k, show(u), show(want))
			}
		}
	}
}
