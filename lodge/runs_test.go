package lodge_test

import (
	"math/rand"
	"slices"
	"testing"

	"lodge/api"
	"lodge/ir"
	"lodge/mach"
)

// tally counts what the runs of a test have come to, so that a test can ask that it has seen enough.
type tally struct {
	ended              [3]int
	tied, bound, stops int
	told, hidden       int
}

// pair is a program with one of its units.
type pair struct {
	p    api.Prog
	u    api.Unit
	must [][api.MaxVars]int
}

func pairOf(t *testing.T, p api.Prog, k int) pair {
	t.Helper()
	return pair{p, compile(t, p, k), mustTell(p)}
}

func numbers(l []api.Seen) []int {
	var all []int
	for _, s := range l {
		all = append(all, s.Stop)
	}
	return all
}

func isBeginning(short, long []int) bool {
	return len(short) <= len(long) && slices.Equal(short, long[:len(short)])
}

// agree: what P10 asks of any two runs, and P11.
func (c pair) agree(t *testing.T, a, b api.Result, args []int) {
	t.Helper()
	if !isBeginning(a.Outs, b.Outs) && !isBeginning(b.Outs, a.Outs) {
		t.Fatalf("P10: %+v, args %v: Outs %v; the unit %s: %v", c.p, args, a.Outs, show(c.u), b.Outs)
	}
	m, n := numbers(a.Stops), numbers(b.Stops)
	if !isBeginning(m, n) && !isBeginning(n, m) {
		t.Fatalf("P10: %+v, args %v: Stops %v; the unit %s: %v", c.p, args, m, show(c.u), n)
	}
	for i := 0; i < min(len(m), len(n)); i++ {
		for v, told := range b.Stops[i].Vars {
			if told != -1 && told != a.Stops[i].Vars[v] {
				t.Fatalf("P11: %+v, args %v: at Stop %d the variables are %v; the unit %s tells %v", c.p, args, i, a.Stops[i], show(c.u), b.Stops[i])
			}
		}
	}
}

// covers: the run that has the more fuel has ended as the other one did, if that did, and shows no less.
func (c pair) covers(t *testing.T, less, more api.Result, args []int, n int) {
	t.Helper()
	if len(more.Outs) < len(less.Outs) || len(more.Stops) < len(less.Stops) {
		t.Fatalf("P10: %+v, args %v, n %d; the unit %s: %+v is not all of %+v", c.p, args, n, show(c.u), more, less)
	}
	if less.End == api.Spent {
		return
	}
	if more.End != less.End || more.Value != less.Value || len(more.Outs) != len(less.Outs) || len(more.Stops) != len(less.Stops) {
		t.Fatalf("P10: %+v, args %v, n %d; the unit %s: %+v and %+v", c.p, args, n, show(c.u), less, more)
	}
}

// tells: what P12 asks of a run of the unit, and what can be asked without the other run.
func (c pair) tells(t *testing.T, b api.Result, args []int, seen *tally) {
	t.Helper()
	for _, s := range b.Stops {
		i := placeOf(c.p, s.Stop)
		seen.stops++
		for v, why := range c.must[i] {
			switch {
			case why != -1 && s.Vars[v] == -1:
				t.Fatalf("P12: %+v, args %v: at the Stop at %d nothing is told of %d; the unit %s", c.p, args, i, v, show(c.u))
			case why == api.Tie:
				seen.tied++
			case why == api.Bind:
				seen.bound++
			case s.Vars[v] == -1:
				seen.hidden++
			default:
				seen.told++
			}
		}
	}
}

func (c pair) runProg(t *testing.T, args []int, fuel int) api.Result {
	t.Helper()
	r, err := ir.Run(c.p, args, fuel)
	if err != api.OK {
		t.Fatalf("ir.Run(%+v, %v, %d): %d", c.p, args, fuel, err)
	}
	return r
}

func (c pair) runUnit(t *testing.T, args []int, fuel int) api.Result {
	t.Helper()
	r, err := mach.Run(c.u, args, fuel)
	if err != api.OK {
		t.Fatalf("mach.Run(%s, %v, %d): %d", show(c.u), args, fuel, err)
	}
	return r
}

// wantRuns: P10, both ways, P11 and P12, for the fuel n as far as the fuels may be.
func (c pair) wantRuns(t *testing.T, args []int, n int, seen *tally) {
	t.Helper()
	progs := []api.Result{c.runProg(t, args, n)}
	units := []api.Result{c.runUnit(t, args, n)}
	if 4*n+4 <= api.MaxFuel {
		more := c.runUnit(t, args, 4*n+4)
		c.covers(t, progs[0], more, args, n)
		units = append(units, more)
	}
	if 40*n+40 <= api.MaxFuel {
		more := c.runProg(t, args, 40*n+40)
		c.covers(t, units[0], more, args, n)
		progs = append(progs, more)
	}
	for _, b := range units {
		for _, a := range progs {
			c.agree(t, a, b, args)
		}
		c.tells(t, b, args, seen)
	}
	seen.ended[progs[0].End]++
}

// wantAnyRuns: with args and fuels that are drawn, and with fuels at which the program or the unit just ends, and just does not.
func (c pair) wantAnyRuns(t *testing.T, r *rand.Rand, seen *tally) {
	t.Helper()
	for range 2 {
		args := anyArgs(r, c.p.Params)
		a, b := c.runProg(t, args, 150), c.runUnit(t, args, 150)
		for _, n := range []int{0, r.Intn(5), r.Intn(60), a.Steps - 1, a.Steps, b.Steps - 1, b.Steps} {
			if n >= 0 {
				c.wantRuns(t, args, n, seen)
			}
		}
	}
}

// wantAll: of a program, at every k: P9, P10, P11 and P12.
func wantAll(t *testing.T, r *rand.Rand, p api.Prog, seen *tally) {
	t.Helper()
	must := mustTell(p)
	for k := 2; k <= 16; k++ {
		pair{p, compile(t, p, k), must}.wantAnyRuns(t, r, seen)
	}
}

func wantSeen(t *testing.T, what string, count, least int) {
	t.Helper()
	if count < least {
		t.Errorf("%s: only %d, not %d", what, count, least)
	}
}

func TestP9P10P11P12Drawn(t *testing.T) {
	for i, kind := range kinds {
		t.Run(kind.name, func(t *testing.T) {
			t.Parallel()
			r := rand.New(rand.NewSource(int64(100 + i)))
			seen := tally{}
			for range 150 {
				wantAll(t, r, drawn(r, kind), &seen)
			}
			wantSeen(t, "runs that return", seen.ended[api.Returned], 500)
			wantSeen(t, "runs that are spent", seen.ended[api.Spent], 500)
			if slices.Contains(kind.ops, api.Stop) && kind.vars > 0 {
				wantSeen(t, "tied", seen.tied, 1000)
				wantSeen(t, "bound", seen.bound, 1000)
				wantSeen(t, "not told", seen.hidden, 1000)
			}
			if slices.Contains(kind.ops, api.Div) {
				wantSeen(t, "runs that are trapped", seen.ended[api.Trapped], 300)
			}
		})
	}
}

func TestP9P10P11P12Crowded(t *testing.T) {
	r := rand.New(rand.NewSource(7))
	seen := tally{}
	for regs := 1; regs <= 12; regs++ {
		for params := 0; params <= min(4, regs); params++ {
			for range 3 {
				p := crowded(r, params, regs)
				if _, c := colours(p); c != regs {
					t.Fatalf("%+v: %d colours", p, c)
				}
				wantAll(t, r, p, &seen)
			}
		}
	}
	wantSeen(t, "bound", seen.bound, 10000)
}

func TestP9P10P11P12Looped(t *testing.T) {
	r := rand.New(rand.NewSource(8))
	seen := tally{}
	for range 100 {
		wantAll(t, r, looped(r), &seen)
	}
	wantSeen(t, "runs that return", seen.ended[api.Returned], 1000)
	wantSeen(t, "bound", seen.bound, 10000)
}

func TestP9P10P11P12Shuffled(t *testing.T) {
	r := rand.New(rand.NewSource(10))
	seen := tally{}
	for i := range 200 {
		p := shuffled(r, i%2 == 0)
		wantAll(t, r, p, &seen)
		wantFew(t, p)
	}
	wantSeen(t, "runs that return", seen.ended[api.Returned], 1000)
	wantSeen(t, "tied", seen.tied, 10000)
	wantSeen(t, "bound", seen.bound, 10000)
}

// steps is a program with one long way, which leads back from piece to piece: from 36 to 34 and so on to 6. Each is a Stop
// (or, at free, a Free of variable 2) with a Jump. At all of them variable 0 is bound to a register that is read at the end,
// and variable 1 is tied. A short way comes to the last piece alone, and with variable 2 still tied.
func steps(free int) api.Prog {
	p := prog(2, 3, 3, bind(0, 1), tie(1, 5), tie(2, 6), branch(0, 38), jump(36), ret(1))
	for at := 6; at < 38; at += 2 {
		x := stop(at)
		if at == free {
			x = api.Ins{Op: api.Free, D: 2}
		}
		target := at - 2
		if at == 6 {
			target = 5
		}
		p.Code = append(p.Code, x, jump(target))
	}
	p.Code = append(p.Code, stop(38), jump(6))
	return p
}

// What holds at the beginning holds through many Jumps back, and what is read at the end is live through them.
func TestP11P12ManyJumpsBack(t *testing.T) {
	for free := 6; free < 38; free += 2 {
		for k := 2; k <= 16; k++ {
			c := pairOf(t, steps(free), k)
			for _, a := range []int{0, 1} {
				for n := 0; n < 50; n++ {
					c.wantRuns(t, []int{a, 9}, n, &tally{})
				}
				for _, s := range c.runUnit(t, []int{a, 9}, 1000).Stops {
					if s.Vars[0] != 9 || s.Vars[1] != 5 {
						t.Fatalf("P12: free at %d, k %d: at the Stop at %d %v is told", free, k, s.Stop, s.Vars)
					}
				}
			}
		}
	}
}

// down puts out its arg and all numbers below it.
var down = prog(1, 2, 1, set(1, 1), bind(0, 0), stop(4), out(0), branch(0, 6), ret(0), sub(0, 0, 1), jump(1))

// byHand are programs of which each has something that may be done wrong.
var byHand = []struct {
	name string
	p    api.Prog
}{
	{"a loop of nothing", prog(0, 1, 0, jump(0))},
	{"a loop of nothing with params", prog(4, 12, 4, jump(0))},
	{"two Jumps", prog(1, 1, 0, jump(1), jump(0))},
	{"a loop of names", prog(1, 1, 2, bind(0, 0), tie(1, 3), free(0), jump(0))},
	{"a long loop of names", prog(1, 1, 1, append(slices.Repeat([]api.Ins{bind(0, 0), tie(0, 3), free(0)}, 13), jump(0))...)},
	{"names up to the end", prog(1, 1, 1, append(slices.Repeat([]api.Ins{bind(0, 0), tie(0, 3), free(0)}, 13), ret(0))...)},
	{"a long loop of Copies", prog(2, 2, 0, append(slices.Repeat([]api.Ins{move(0, 0), move(1, 1), move(0, 0)}, 13), jump(0))...)},
	{"a long loop of dead Copies", prog(2, 4, 0, append(slices.Repeat([]api.Ins{move(2, 0), move(3, 1), move(2, 3)}, 13), jump(0))...)},
	{"Copies up to a Return", prog(2, 4, 0, append(slices.Repeat([]api.Ins{move(2, 0), move(3, 1), move(0, 2)}, 13), ret(0))...)},
	{"an If to itself", prog(1, 1, 0, branch(0, 0), ret(0))},
	{"an If to the next", prog(1, 1, 0, branch(0, 1), ret(0))},
	{"a Jump to names", prog(1, 1, 1, jump(1), bind(0, 0), stop(1), tie(0, 2), stop(2), branch(0, 6), free(0), stop(3), ret(0))},
	{"back to the first instruction", prog(2, 2, 0, out(0), sub(0, 0, 1), branch(0, 0), ret(1))},
	{"back to the first instruction, which is a Bind", prog(2, 2, 1, bind(0, 0), stop(9), out(0), sub(0, 0, 1), branch(0, 0), ret(1))},
	{"down", down},
	{"division by 0", prog(2, 2, 0, reckon(api.Div, 0, 0, 1), ret(0))},
	{"division by 0 that nobody reads", prog(2, 3, 0, reckon(api.Div, 2, 0, 1), out(0), ret(1))},
	{"division by 0 by what nothing wrote", prog(1, 2, 0, out(0), reckon(api.Div, 0, 0, 1), ret(0))},
	{"read though nothing wrote", prog(0, 3, 0, out(2), out(1), add(2, 2, 1), out(2), ret(0))},
	{"read though nothing wrote, behind params", prog(2, 6, 1, bind(0, 5), stop(1), add(5, 5, 0), out(5), out(4), out(1), ret(3))},
	{"read though nothing wrote, on one way", prog(1, 3, 1, branch(0, 3), set(1, 8), set(2, 9), out(1), out(2), add(1, 1, 2), ret(1))},
	{"args that are never read", prog(4, 4, 0, set(0, 7), set(3, 8), out(3), ret(0))},
	{"some args that are never read", prog(4, 5, 1, out(2), bind(0, 4), stop(5), out(4), ret(4))},
	{"no arg is read, though nothing else wrote what is", prog(3, 7, 0, out(5), out(6), ret(4))},
	{"one arg over another", prog(2, 2, 2, bind(0, 0), bind(1, 1), stop(1), move(0, 1), stop(2), out(0), out(1), ret(0))},
	{"args change places", prog(2, 3, 2, move(2, 0), move(0, 1), move(1, 2), bind(0, 0), bind(1, 1), stop(1), out(0), out(1), ret(2))},
	{"args change places in a loop", prog(3, 6, 1, set(5, 1), set(4, 5), move(3, 0), move(0, 1), move(1, 2), move(2, 3), bind(0, 2), stop(1), out(0), sub(4, 4, 5), branch(4, 2), out(1), ret(2))},
	{"a Copy to itself", prog(1, 1, 1, bind(0, 0), move(0, 0), stop(1), ret(0))},
	{"no way leads here", prog(1, 4, 1, jump(5), set(1, 4), free(0), add(2, 1, 3), jump(6), tie(0, 6), stop(1), out(1), ret(0))},
	{"no way leads to the end", prog(1, 2, 0, ret(0), out(1), set(1, 5), jump(2))},
	{"written and never read", prog(2, 5, 0, set(2, 1), set(3, 2), add(4, 0, 1), out(0), ret(1))},
	{"the last instruction jumps back", prog(1, 2, 0, jump(3), out(0), ret(0), set(1, 4), add(0, 0, 1), jump(1))},
	{"all of D, A and B the same", prog(1, 1, 0, add(0, 0, 0), reckon(api.Mul, 0, 0, 0), out(0), sub(0, 0, 0), reckon(api.Less, 0, 0, 0), ret(0))},
	{"Less and If", prog(2, 3, 0, reckon(api.Less, 2, 0, 1), branch(2, 4), out(1), ret(1), out(0), ret(0))},
}

func TestP9P10P11P12ByHand(t *testing.T) {
	r := rand.New(rand.NewSource(9))
	for _, c := range byHand {
		t.Run(c.name, func(t *testing.T) {
			seen := tally{}
			for range 10 {
				wantAll(t, r, c.p, &seen)
			}
			must := mustTell(c.p)
			for k := 2; k <= 16; k++ {
				unit := pair{c.p, compile(t, c.p, k), must}
				for n := 0; n < 50; n++ {
					unit.wantRuns(t, []int{3, 1, 0, 2}[:c.p.Params], n, &seen)
					unit.wantRuns(t, []int{0, 2, 1, 3}[:c.p.Params], n, &seen)
				}
			}
		})
	}
}

func named(t *testing.T, name string) api.Prog {
	t.Helper()
	for _, c := range byHand {
		if c.name == name {
			return c.p
		}
	}
	t.Fatalf("there is no %s", name)
	return api.Prog{}
}

// The greatest fuels that P10 can be asked with.
func TestP10GreatFuels(t *testing.T) {
	for _, name := range []string{"down", "a loop of nothing", "a loop of names", "a long loop of names", "a long loop of Copies", "back to the first instruction, which is a Bind"} {
		p := named(t, name)
		for _, k := range []int{2, 3, 16} {
			c := pairOf(t, p, k)
			for _, n := range []int{2498, 2499, 2500, 24998, 24999, 25000, 100000} {
				for _, a := range []int{0, 300, 3000, 65535} {
					c.wantRuns(t, []int{a, 1}[:p.Params], n, &tally{})
				}
			}
		}
	}
}

// What a run answers, said by hand: not only that the two agree.
func TestP10Answers(t *testing.T) {
	for _, c := range []struct {
		p    api.Prog
		args []int
		want api.Result
	}{
		{prog(2, 2, 0, add(0, 0, 1), ret(0)), []int{3, 4}, api.Result{Value: 7}},
		{prog(2, 2, 0, reckon(api.Div, 0, 0, 1), ret(0)), []int{5, 0}, api.Result{End: api.Trapped}},
		{prog(2, 2, 0, reckon(api.Div, 0, 0, 1), ret(0)), []int{5, 2}, api.Result{Value: 2}},
		{prog(0, 4, 0, set(0, 1), set(1, 2), set(2, 3), add(3, 0, 1), add(3, 3, 2), ret(3)), nil, api.Result{Value: 6}},
		{down, []int{3}, api.Result{Value: 0, Outs: []int{3, 2, 1, 0}, Stops: []api.Seen{{Stop: 4}, {Stop: 4}, {Stop: 4}, {Stop: 4}}}},
		{prog(2, 2, 0, move(0, 1), out(0), out(1), ret(0)), []int{5, 6}, api.Result{Value: 6, Outs: []int{6, 6}}},
		{prog(4, 4, 0, ret(3)), []int{5, 6, 7, 65535}, api.Result{Value: 65535}},
		{prog(0, 2, 0, stop(0), stop(99), jump(4), ret(0), set(1, 65535), ret(1)), nil, api.Result{Value: 65535, Stops: []api.Seen{{Stop: 0}, {Stop: 99}}}},
		{prog(0, 1, 0, jump(0)), nil, api.Result{End: api.Spent}},
	} {
		for k := 2; k <= 16; k++ {
			b := pairOf(t, c.p, k).runUnit(t, c.args, 1000)
			if b.End != c.want.End || b.Value != c.want.Value || !slices.Equal(b.Outs, c.want.Outs) || !slices.Equal(numbers(b.Stops), numbers(c.want.Stops)) {
				t.Errorf("%+v, k %d, args %v: %+v; want %+v", c.p, k, c.args, b, c.want)
			}
		}
	}
}
