package lodge_test

import (
	"fmt"
	"math/rand"
	"testing"

	"lodge/api"
	"lodge/lodge"
	"lodge/mach"
)

func set(d, a int) api.Ins { return api.Ins{Op: api.Const, D: d, A: a} }

func move(d, a int) api.Ins { return api.Ins{Op: api.Copy, D: d, A: a} }

func reckon(op, d, a, b int) api.Ins { return api.Ins{Op: op, D: d, A: a, B: b} }

func add(d, a, b int) api.Ins { return reckon(api.Add, d, a, b) }

func sub(d, a, b int) api.Ins { return reckon(api.Sub, d, a, b) }

func jump(target int) api.Ins { return api.Ins{Op: api.Jump, A: target} }

func branch(a, target int) api.Ins { return api.Ins{Op: api.If, A: a, B: target} }

func out(a int) api.Ins { return api.Ins{Op: api.Out, A: a} }

func ret(a int) api.Ins { return api.Ins{Op: api.Return, A: a} }

func stop(number int) api.Ins { return api.Ins{Op: api.Stop, A: number} }

func bind(v, a int) api.Ins { return api.Ins{Op: api.Bind, D: v, A: a} }

func tie(v, n int) api.Ins { return api.Ins{Op: api.Tie, D: v, A: n} }

func free(v int) api.Ins { return api.Ins{Op: api.Free, D: v} }

func prog(params, regs, vars int, l ...api.Ins) api.Prog {
	return api.Prog{Params: params, Regs: regs, Vars: vars, Code: l}
}

// show has the bytes of the table as numbers.
func show(u api.Unit) string {
	return fmt.Sprintf("{K:%d Slots:%d Params:%d Vars:%d Code:%+v Table:% x}", u.K, u.Slots, u.Params, u.Vars, u.Code, u.Table)
}

// compile is Compile, and that its unit is as P9 asks.
func compile(t *testing.T, p api.Prog, k int) api.Unit {
	t.Helper()
	u, err := lodge.Compile(p, k)
	if err != api.OK {
		t.Fatalf("P9: Compile(%+v, %d): error %d", p, k, err)
	}
	if err, place := mach.Check(u); err != api.OK {
		t.Fatalf("P9: Compile(%+v, %d) = %s: mach.Check %d, %d", p, k, show(u), err, place)
	}
	if u.K != k || u.Params != p.Params || u.Vars != p.Vars || u.Slots > p.Params+p.Regs || len(u.Code) > 4*len(p.Code)+4 {
		t.Fatalf("P9: Compile(%+v, %d) = %s", p, k, show(u))
	}
	return u
}

func isWriting(op int) bool { return op >= api.Const && op <= api.Less }

// registersOf tells which registers an instruction reads, and which it writes: by the document's table and P12.
func registersOf(x api.Ins) (reads, writes []int) {
	switch x.Op {
	case api.Copy, api.If, api.Out, api.Return:
		reads = []int{x.A}
	case api.Add, api.Sub, api.Mul, api.Div, api.Less:
		reads = []int{x.A, x.B}
	}
	if isWriting(x.Op) {
		writes = []int{x.D}
	}
	return reads, writes
}

func has(l []int, n int) bool {
	for _, m := range l {
		if m == n {
			return true
		}
	}
	return false
}

// next tells which instructions may come behind that at i.
func next(p api.Prog, i int) []int {
	switch x := p.Code[i]; x.Op {
	case api.Return:
		return nil
	case api.Jump:
		return []int{x.A}
	case api.If:
		return []int{x.B, i + 1}
	}
	return []int{i + 1}
}

// isLive walks the ways from i on, until they read r or write it.
func isLive(p api.Prog, i, r int) bool {
	seen := map[int]bool{}
	todo := []int{i}
	for len(todo) > 0 {
		at := todo[0]
		todo = todo[1:]
		if seen[at] {
			continue
		}
		seen[at] = true
		reads, writes := registersOf(p.Code[at])
		if has(reads, r) {
			return true
		}
		if !has(writes, r) {
			todo = append(todo, next(p, at)...)
		}
	}
	return false
}

// last is the last Bind, Tie or Free of a variable on a way; op -1: there was none; spoilt: the register has been written behind the Bind.
type last struct {
	op, a  int
	spoilt bool
}

// lasts walks all ways: what the last Bind, Tie or Free of v may be at each instruction, on some way.
func lasts(p api.Prog, v int) []map[last]bool {
	at := make([]map[last]bool, len(p.Code))
	for i := range at {
		at[i] = map[last]bool{}
	}
	type point struct {
		i int
		l last
	}
	todo := []point{{0, last{op: -1}}}
	for len(todo) > 0 {
		now := todo[0]
		todo = todo[1:]
		if at[now.i][now.l] {
			continue
		}
		at[now.i][now.l] = true
		x, l := p.Code[now.i], now.l
		_, writes := registersOf(x)
		if l.op == api.Bind && has(writes, l.a) {
			l.spoilt = true
		}
		if x.D == v && x.Op == api.Free {
			l = last{op: api.Free}
		}
		if x.D == v && (x.Op == api.Bind || x.Op == api.Tie) {
			l = last{op: x.Op, a: x.A}
		}
		for _, j := range next(p, now.i) {
			todo = append(todo, point{j, l})
		}
	}
	return at
}

// mustTell has, by the instruction and the variable, why P12 asks that it is told there: api.Tie, api.Bind, or -1 if it does not.
func mustTell(p api.Prog) [][api.MaxVars]int {
	must := make([][api.MaxVars]int, len(p.Code))
	for i := range must {
		must[i] = [4]int{-1, -1, -1, -1}
	}
	for v := 0; v < p.Vars; v++ {
		at := lasts(p, v)
		for i, x := range p.Code {
			if x.Op != api.Stop || len(at[i]) != 1 {
				continue
			}
			for l := range at[i] {
				if l.op == api.Tie || l.op == api.Bind && !l.spoilt && isLive(p, i, l.a) {
					must[i][v] = l.op
				}
			}
		}
	}
	return must
}

func collide(p api.Prog, r, s int) bool {
	if isLive(p, 0, r) && isLive(p, 0, s) {
		return true
	}
	for i, x := range p.Code {
		_, writes := registersOf(x)
		for _, j := range next(p, i) {
			if has(writes, r) && isLive(p, j, s) || has(writes, s) && isLive(p, j, r) {
				return true
			}
		}
	}
	return false
}

// colours are those of the registers, and how many there are (P13).
func colours(p api.Prog) ([]int, int) {
	var l []int
	count := 0
	for r := 0; r < p.Regs; r++ {
		taken := []int{}
		for s := 0; s < r; s++ {
			if collide(p, r, s) {
				taken = append(taken, l[s])
			}
		}
		n := 0
		for has(taken, n) {
			n++
		}
		l = append(l, n)
		count = max(count, n+1)
	}
	return l, count
}

// fieldsFrom is h of P13: how often a register of a colour of at least least is read or written.
func fieldsFrom(p api.Prog, colours []int, least int) int {
	h := 0
	for _, x := range p.Code {
		reads, writes := registersOf(x)
		for _, r := range append(reads, writes...) {
			if colours[r] >= least {
				h++
			}
		}
	}
	return h
}

func countOps(u api.Unit, op int) int {
	n := 0
	for _, x := range u.Code {
		if x.Op == op {
			n++
		}
	}
	return n
}

var values = []int{0, 1, 2, 3, 5, 9, 255, 256, 32767, 32768, 65534, 65535}

func anyValue(r *rand.Rand) int {
	if r.Intn(2) == 0 {
		return r.Intn(4)
	}
	return values[r.Intn(len(values))]
}

func anyArgs(r *rand.Rand, params int) []int {
	args := make([]int, params)
	for i := range args {
		args[i] = anyValue(r)
	}
	return args
}

// kindOf is a kind of drawn programs: how often which instruction comes, of what size they are.
type kindOf struct {
	name               string
	regs, vars, length int // at most
	ops                []int
	ahead              bool // all Jumps and Ifs lead ahead, but for the last instruction
	full               bool // as large as may be
}

var (
	work  = []int{api.Const, api.Copy, api.Add, api.Sub, api.Mul, api.Div, api.Less, api.Out}
	names = []int{api.Bind, api.Bind, api.Tie, api.Free, api.Stop, api.Stop}
	ways  = []int{api.Jump, api.If, api.If}
	every = []int{api.Const, api.Copy, api.Add, api.Sub, api.Mul, api.Div, api.Less, api.Out, api.Jump, api.If, api.If, api.Return, api.Stop, api.Stop, api.Stop, api.Bind, api.Bind, api.Bind, api.Tie, api.Free}
)

func join(l ...[]int) []int {
	var all []int
	for _, m := range l {
		all = append(all, m...)
	}
	return all
}

var kinds = []kindOf{
	{name: "of everything", regs: 12, vars: 4, length: 40, ops: every},
	{name: "small", regs: 3, vars: 2, length: 8, ops: every},
	{name: "straight", regs: 12, vars: 4, length: 40, ops: join(work, work, names)},
	{name: "ahead", regs: 8, vars: 4, length: 30, ops: join(work, names, ways), ahead: true},
	{name: "of names and ways", regs: 3, vars: 3, length: 16, ops: join(names, names, ways, []int{api.Out, api.Const, api.Sub})},
	{name: "of Copies and names", regs: 6, vars: 4, length: 40, ops: []int{api.Copy, api.Copy, api.Bind, api.Tie, api.Free}},
	{name: "of Copies, names and ways", regs: 4, vars: 3, length: 20, ops: join(names, []int{api.Copy, api.Copy, api.Copy, api.If})},
	{name: "of reckoning", regs: 12, vars: 0, length: 40, ops: []int{api.Add, api.Sub, api.Mul, api.Less, api.If, api.Out}},
	{name: "full", regs: 12, vars: 4, length: 40, ops: join(work, names, []int{api.If}), full: true},
	{name: "full of Stops", regs: 12, vars: 4, length: 40, ops: join(names, names, []int{api.Out, api.Copy, api.Const}), full: true},
}

// drawn is a program of a kind.
func drawn(r *rand.Rand, kind kindOf) api.Prog {
	p := prog(0, 1+r.Intn(kind.regs), r.Intn(kind.vars+1), make([]api.Ins, 1+r.Intn(kind.length))...)
	p.Params = r.Intn(min(p.Regs, 4) + 1)
	if kind.full {
		p = prog(4, kind.regs, kind.vars, make([]api.Ins, kind.length)...)
	}
	for i := range p.Code {
		op := kind.ops[r.Intn(len(kind.ops))]
		if p.Vars == 0 && op >= api.Bind {
			op = api.Copy
		}
		if i == len(p.Code)-1 {
			op = []int{api.Jump, api.Return}[r.Intn(2)]
		}
		target := r.Intn(len(p.Code))
		if kind.ahead && i < len(p.Code)-1 {
			target = i + 1 + r.Intn(len(p.Code)-i-1)
		}
		p.Code[i] = drawnIns(r, p, op, target)
	}
	numberStops(p, r.Intn(100))
	return p
}

// drawnIns has, in the fields that its Op does not have, anything.
func drawnIns(r *rand.Rand, p api.Prog, op, target int) api.Ins {
	x := api.Ins{Op: op, D: -1 << 63, A: 1 << 40, B: -r.Intn(100)}
	switch op {
	case api.Const:
		x.D, x.A = r.Intn(p.Regs), anyValue(r)
	case api.Jump:
		x.A = target
	case api.If:
		x.A, x.B = r.Intn(p.Regs), target
	case api.Out, api.Return:
		x.A = r.Intn(p.Regs)
	case api.Copy:
		x.D, x.A = r.Intn(p.Regs), r.Intn(p.Regs)
	case api.Bind:
		x.D, x.A = r.Intn(p.Vars), r.Intn(p.Regs)
	case api.Tie:
		x.D, x.A = r.Intn(p.Vars), anyValue(r)
	case api.Free:
		x.D = r.Intn(p.Vars)
	case api.Stop:
		x.A = 0
	default:
		x.D, x.A, x.B = r.Intn(p.Regs), r.Intn(p.Regs), r.Intn(p.Regs)
	}
	return x
}

// crowded has count registers that all are written ahead of all being read: none can share with another.
func crowded(r *rand.Rand, params, count int) api.Prog {
	p := prog(params, count, 4)
	for i := params; i < count; i++ {
		p.Code = append(p.Code, set(i, 10+i))
	}
	for v := 0; v < 4; v++ {
		p.Code = append(p.Code, bind(v, r.Intn(count)))
	}
	p.Code = append(p.Code, stop(1))
	order := r.Perm(count)
	for i := 1; i < count; i++ {
		op := []int{api.Add, api.Sub, api.Mul, api.Less}[r.Intn(4)]
		p.Code = append(p.Code, reckon(op, order[0], order[0], order[i]))
		if i%3 == 1 {
			p.Code = append(p.Code, stop(1+i))
		}
	}
	p.Code = append(p.Code, out(order[0]), ret(order[0]))
	return p
}

// looped does a drawn body as often as its first arg says, once or seven times: such a program ends.
func looped(r *rand.Rand) api.Prog {
	body := drawn(r, kindOf{regs: 10, vars: 4, length: 16, ops: join(work, names)})
	count, unit := body.Regs, body.Regs+1
	p := prog(body.Params, body.Regs+2, 4, set(count, 7), branch(0, 3), set(count, 1), set(unit, 1), bind(0, count))
	begin := len(p.Code)
	p.Code = append(p.Code, body.Code[:len(body.Code)-1]...)
	p.Code = append(p.Code, stop(0), sub(count, count, unit), bind(1, count), stop(0), branch(count, begin), stop(0), out(count), ret(r.Intn(body.Regs)))
	numberStops(p, r.Intn(100))
	return p
}

// shuffled has pieces of one or two instructions, each with a Jump to the next, that stand in any order or, if it is
// back, the last first: what holds at one must be followed through many Jumps back.
func shuffled(r *rand.Rand, back bool) api.Prog {
	const pieces = 13
	order := r.Perm(pieces)
	for i := range order {
		if back {
			order[i] = pieces - 1 - i
		}
	}
	p := prog(r.Intn(4), 3+r.Intn(5), 4, make([]api.Ins, 1+3*pieces)...)
	ops := join(names, names, []int{api.Out, api.Const, api.Copy, api.Add})
	p.Code[0] = jump(1 + 3*order[0])
	for i, piece := range order {
		at := 1 + 3*piece
		other := 1 + 3*r.Intn(pieces)
		p.Code[at] = drawnIns(r, p, ops[r.Intn(len(ops))], 0)
		p.Code[at+1] = drawnIns(r, p, ops[r.Intn(len(ops))], 0)
		if r.Intn(6) == 0 {
			p.Code[at+1] = branch(r.Intn(p.Regs), other)
		}
		p.Code[at+2] = ret(r.Intn(p.Regs))
		if i+1 < pieces {
			p.Code[at+2] = jump(1 + 3*order[i+1])
		}
	}
	numberStops(p, r.Intn(100))
	return p
}

// numberStops gives each Stop another number, so that the number tells the place.
func numberStops(p api.Prog, first int) {
	for i, x := range p.Code {
		if x.Op == api.Stop {
			p.Code[i].A = (first + 37*i) % 100
		}
	}
}

// placeOf tells where the Stop of this number stands.
func placeOf(p api.Prog, number int) int {
	for i, x := range p.Code {
		if x.Op == api.Stop && x.A == number {
			return i
		}
	}
	return -1
}
