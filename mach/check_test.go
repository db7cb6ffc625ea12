package mach

import (
	"math"
	"math/rand"
	"slices"
	"testing"

	"lodge/api"
	"lodge/leb"
)

func wantCheck(t *testing.T, u api.Unit, want api.Errno, place int) {
	t.Helper()
	err, at := Check(u)
	if err != want || at != place {
		t.Errorf("Check(%+v) = %d, %d; want %d, %d", u, err, at, want, place)
	}
}

// noRanges is the table of no range.
const noRanges = "\x00"

func unit(k, slots, params, vars int, l ...api.Ins) api.Unit {
	return api.Unit{K: k, Slots: slots, Params: params, Vars: vars, Code: l, Table: noRanges}
}

// returns is that many times Return 0.
func returns(count int) []api.Ins {
	l := make([]api.Ins, count)
	for i := range l {
		l[i].Op = api.Return
	}
	return l
}

// at is a range.
func at(v, from, to, kind, place int) api.Range {
	return api.Range{Var: v, From: from, To: to, Kind: kind, At: place}
}

// with is the unit with that table; a list that is none would be wrong for another reason than the test's.
func with(u api.Unit, l ...api.Range) api.Unit {
	s, err := leb.Encode(l)
	if err != api.OK {
		panic("the list is no table")
	}
	u.Table = s
	return u
}

// ends are numbers far out, at which a sum or a product would run over.
var ends = []int{math.MinInt, math.MinInt + 1, math.MinInt32, -65536, -1, 65536, 1 << 20, math.MaxInt32, 1 << 32, 1 << 40, math.MaxInt - 1, math.MaxInt}

func TestP7BoundsOfK(t *testing.T) {
	for k := 2; k <= 16; k++ {
		wantCheck(t, unit(k, 0, 0, 0, returns(1)...), api.OK, 0)
	}
	for _, k := range append([]int{1, 0, -2, 17, 18, 32}, ends...) {
		wantCheck(t, unit(k, 0, 0, 0, returns(1)...), api.ErrSize, 0)
	}
}

func TestP7BoundsOfSlots(t *testing.T) {
	for slots := 0; slots <= 16; slots++ {
		wantCheck(t, unit(2, slots, 0, 0, returns(1)...), api.OK, 0)
	}
	for _, slots := range append([]int{-2, 17, 18, 32}, ends...) {
		wantCheck(t, unit(2, slots, 0, 0, returns(1)...), api.ErrSize, 0)
	}
}

func TestP7BoundsOfParams(t *testing.T) {
	for slots := 0; slots <= 16; slots++ {
		for params := -2; params <= 18; params++ {
			want := api.OK
			if params < 0 || params > 4 || params > slots {
				want = api.ErrSize
			}
			// The registers set no bound to the params.
			wantCheck(t, unit(2, slots, params, 0, returns(1)...), want, 0)
			wantCheck(t, unit(16, slots, params, 0, returns(1)...), want, 0)
		}
	}
	for _, params := range ends {
		wantCheck(t, unit(16, 16, params, 0, returns(1)...), api.ErrSize, 0)
	}
}

func TestP7BoundsOfVars(t *testing.T) {
	for vars := 0; vars <= 4; vars++ {
		wantCheck(t, unit(2, 0, 0, vars, returns(1)...), api.OK, 0)
	}
	for _, vars := range append([]int{-2, 5, 6, 16}, ends...) {
		wantCheck(t, unit(2, 0, 0, vars, returns(1)...), api.ErrSize, 0)
	}
}

func TestP7BoundsOfTheCode(t *testing.T) {
	for count := 0; count <= 170; count++ {
		want := api.OK
		if count < 1 || count > 164 {
			want = api.ErrSize
		}
		wantCheck(t, unit(2, 0, 0, 0, returns(count)...), want, 0)
	}
	wantCheck(t, api.Unit{K: 2, Table: noRanges}, api.ErrSize, 0)
	wantCheck(t, api.Unit{K: 2, Table: noRanges, Code: []api.Ins{}}, api.ErrSize, 0)
	wantCheck(t, api.Unit{}, api.ErrSize, 0)
	wantCheck(t, unit(2, 0, 0, 0, returns(100000)...), api.ErrSize, 0)
}

// The sizes come ahead of whatever the code and the table have.
func TestP7SizeComesFirst(t *testing.T) {
	bad := []api.Ins{{Op: 99, D: -1, A: -1, B: -1}}
	for _, u := range []api.Unit{
		unit(1, 0, 0, 0, bad...), unit(17, 0, 0, 0, bad...),
		unit(2, -1, 0, 0, bad...), unit(2, 17, 0, 0, bad...),
		unit(2, 1, 2, 0, bad...), unit(2, 9, 5, 0, bad...), unit(2, 9, -1, 0, bad...),
		unit(2, 0, 0, -1, bad...), unit(2, 0, 0, 5, bad...),
		unit(2, 0, 0, 0, append(returns(164), bad...)...), unit(2, 0, 0, 0, append(bad, returns(164)...)...),
		unit(2, 0, 0, 0),
	} {
		wantCheck(t, u, api.ErrSize, 0)
		u.Table = ""
		wantCheck(t, u, api.ErrSize, 0)
	}
}

// shape has the fields of an Op as the document's table has them.
type shape struct {
	op      int
	d, a, b string
}

var shapes = []shape{
	{0, "register", "constant", ""},
	{1, "register", "register", ""},
	{2, "register", "register", "register"},
	{3, "register", "register", "register"},
	{4, "register", "register", "register"},
	{5, "register", "register", "register"},
	{6, "register", "register", "register"},
	{7, "", "target", ""},
	{8, "", "register", "target"},
	{9, "", "register", ""},
	{10, "", "register", ""},
	{11, "", "number", ""},
	{15, "register", "slot", ""},
	{16, "slot", "register", ""},
}

// fault is the error of a field, by the words of the document.
func fault(u api.Unit, kind string, n int) api.Errno {
	limit := map[string]int{"register": u.K, "constant": 65536, "target": len(u.Code), "number": 100, "slot": u.Slots}[kind]
	err := map[string]api.Errno{"register": api.ErrReg, "constant": api.ErrConst, "target": api.ErrTarget, "number": api.ErrStop, "slot": api.ErrSlot}[kind]
	if kind == "" || n >= 0 && n < limit {
		return api.OK
	}
	return err
}

// byTheWords is Check of a unit whose sizes and whose table are right, by the words of the document.
func byTheWords(u api.Unit) (api.Errno, int) {
	for i, x := range u.Code {
		n := slices.IndexFunc(shapes, func(s shape) bool { return s.op == x.Op })
		if n < 0 {
			return api.ErrOp, i
		}
		for _, err := range []api.Errno{fault(u, shapes[n].d, x.D), fault(u, shapes[n].a, x.A), fault(u, shapes[n].b, x.B)} {
			if err != api.OK {
				return err, i
			}
		}
	}
	last := len(u.Code) - 1
	if op := u.Code[last].Op; op != api.Jump && op != api.Return {
		return api.ErrEnd, last
	}
	return api.OK, 0
}

// Each field of each Op at the edges of its range, in units whose ranges differ in size, at the first, a middle and the last place.
func TestP7EachFieldOfEachOp(t *testing.T) {
	edges := append([]int{0, 1, 2, 3, 4, 5, 6, 7, 8, 9, 15, 16, 17, 99, 100, 101, 163, 164, 165, 65534, 65535}, ends...)
	for _, size := range []api.Unit{unit(5, 3, 0, 4, returns(8)...), unit(2, 1, 1, 0, returns(1)...), unit(16, 16, 4, 4, returns(164)...), unit(2, 0, 0, 0, returns(2)...), unit(3, 7, 2, 1, returns(101)...)} {
		for _, s := range shapes {
			for _, place := range []int{0, len(size.Code) / 2, len(size.Code) - 1} {
				for _, n := range edges {
					for _, x := range []api.Ins{{Op: s.op, D: n}, {Op: s.op, A: n}, {Op: s.op, B: n}, {Op: s.op, D: n, A: n, B: n}} {
						u := size
						u.Code = slices.Clone(size.Code)
						u.Code[place] = x
						want, at := byTheWords(u)
						wantCheck(t, u, want, at)
					}
				}
			}
		}
	}
}

// The shapes that the other tests hold to are themselves held to: each kind of field just in and just out of its range, told by hand.
func TestP7FieldsByHand(t *testing.T) {
	for _, c := range []struct {
		x    api.Ins
		want api.Errno
	}{
		{api.Ins{Op: api.Const, D: 2, A: 65535}, api.OK},
		{api.Ins{Op: api.Const, D: 3}, api.ErrReg},
		{api.Ins{Op: api.Const, D: -1}, api.ErrReg},
		{api.Ins{Op: api.Const, A: 65536}, api.ErrConst},
		{api.Ins{Op: api.Const, A: -1}, api.ErrConst},
		{api.Ins{Op: api.Copy, D: 2, A: 2}, api.OK},
		{api.Ins{Op: api.Copy, D: 3, A: 0}, api.ErrReg},
		{api.Ins{Op: api.Copy, D: 0, A: 3}, api.ErrReg},
		{api.Ins{Op: api.Add, D: 2, A: 2, B: 2}, api.OK},
		{api.Ins{Op: api.Sub, D: 3, A: 0, B: 0}, api.ErrReg},
		{api.Ins{Op: api.Mul, D: 0, A: 3, B: 0}, api.ErrReg},
		{api.Ins{Op: api.Div, D: 0, A: 0, B: 3}, api.ErrReg},
		{api.Ins{Op: api.Less, D: 0, A: 0, B: -1}, api.ErrReg},
		{api.Ins{Op: api.Jump, A: 4}, api.OK},
		{api.Ins{Op: api.Jump, A: 5}, api.ErrTarget},
		{api.Ins{Op: api.Jump, A: -1}, api.ErrTarget},
		{api.Ins{Op: api.If, A: 2, B: 4}, api.OK},
		{api.Ins{Op: api.If, A: 3, B: 4}, api.ErrReg},
		{api.Ins{Op: api.If, A: 2, B: 5}, api.ErrTarget},
		{api.Ins{Op: api.If, A: 2, B: -1}, api.ErrTarget},
		{api.Ins{Op: api.Out, A: 2}, api.OK},
		{api.Ins{Op: api.Out, A: 3}, api.ErrReg},
		{api.Ins{Op: api.Return, A: 2}, api.OK},
		{api.Ins{Op: api.Return, A: -1}, api.ErrReg},
		{api.Ins{Op: api.Stop, A: 99}, api.OK},
		{api.Ins{Op: api.Stop, A: 100}, api.ErrStop},
		{api.Ins{Op: api.Stop, A: -1}, api.ErrStop},
		{api.Ins{Op: api.Load, D: 2, A: 3}, api.OK},
		{api.Ins{Op: api.Load, D: 3, A: 3}, api.ErrReg},
		{api.Ins{Op: api.Load, D: -1, A: 0}, api.ErrReg},
		{api.Ins{Op: api.Load, D: 2, A: 4}, api.ErrSlot},
		{api.Ins{Op: api.Load, D: 2, A: -1}, api.ErrSlot},
		{api.Ins{Op: api.Store, D: 3, A: 2}, api.OK},
		{api.Ins{Op: api.Store, D: 4, A: 2}, api.ErrSlot},
		{api.Ins{Op: api.Store, D: -1, A: 2}, api.ErrSlot},
		{api.Ins{Op: api.Store, D: 3, A: 3}, api.ErrReg},
		{api.Ins{Op: api.Store, D: 3, A: -1}, api.ErrReg},
		{api.Ins{Op: api.Bind}, api.ErrOp},
		{api.Ins{Op: api.Tie}, api.ErrOp},
		{api.Ins{Op: api.Free}, api.ErrOp},
	} {
		l := returns(5)
		l[2] = c.x
		place := 2
		if c.want == api.OK {
			place = 0
		}
		wantCheck(t, unit(3, 4, 0, 2, l...), c.want, place)
	}
}

// Where there are no slots, no Load and no Store is right.
func TestP7NoSlots(t *testing.T) {
	wantCheck(t, unit(2, 0, 0, 0, api.Ins{Op: api.Load}, returns(1)[0]), api.ErrSlot, 0)
	wantCheck(t, unit(2, 0, 0, 0, returns(1)[0], api.Ins{Op: api.Store}, returns(1)[0]), api.ErrSlot, 1)
}

func TestP7FieldsThatAnOpDoesNotHave(t *testing.T) {
	for _, n := range ends {
		for _, x := range []api.Ins{
			{Op: api.Const, B: n},
			{Op: api.Copy, B: n},
			{Op: api.Jump, D: n, B: n},
			{Op: api.If, D: n},
			{Op: api.Out, D: n, B: n},
			{Op: api.Return, D: n, B: n},
			{Op: api.Stop, D: n, B: n},
			{Op: api.Load, B: n},
			{Op: api.Store, B: n},
		} {
			wantCheck(t, unit(2, 1, 0, 0, x, api.Ins{Op: api.Return, D: n, B: n}), api.OK, 0)
			wantCheck(t, unit(2, 1, 0, 0, x, api.Ins{Op: api.Jump, D: n, B: n}), api.OK, 0)
		}
	}
}

func TestP7NoOpOfAUnit(t *testing.T) {
	for _, op := range append([]int{api.Bind, api.Tie, api.Free, 17, 18, 255, 256}, ends...) {
		for place := 0; place < 3; place++ {
			l := returns(3)
			l[place] = api.Ins{Op: op}
			wantCheck(t, unit(2, 1, 0, 4, l...), api.ErrOp, place)
			l[place] = api.Ins{Op: op, D: -1, A: -1, B: -1}
			wantCheck(t, unit(2, 1, 0, 4, l...), api.ErrOp, place)
		}
	}
}

func TestP7WhichErrorComesFirst(t *testing.T) {
	bad := []struct {
		x   api.Ins
		err api.Errno
	}{
		{api.Ins{Op: -1, D: -1, A: -1, B: -1}, api.ErrOp},
		{api.Ins{Op: api.Bind, D: -1, A: -1, B: -1}, api.ErrOp},
		{api.Ins{Op: api.Const, D: -1, A: -1}, api.ErrReg},
		{api.Ins{Op: api.Const, D: 0, A: -1}, api.ErrConst},
		{api.Ins{Op: api.If, D: -1, A: -1, B: -1}, api.ErrReg},
		{api.Ins{Op: api.If, D: -1, A: 0, B: -1}, api.ErrTarget},
		{api.Ins{Op: api.Load, D: -1, A: -1}, api.ErrReg},
		{api.Ins{Op: api.Load, D: 0, A: -1}, api.ErrSlot},
		{api.Ins{Op: api.Store, D: -1, A: -1}, api.ErrSlot},
		{api.Ins{Op: api.Store, D: 0, A: -1}, api.ErrReg},
		{api.Ins{Op: api.Stop, A: 100}, api.ErrStop},
	}
	out, ret := api.Ins{Op: api.Out}, api.Ins{Op: api.Return}
	// The table comes last, a right one or a wrong one.
	for _, table := range []string{noRanges, "", "\x00\x00", "\x01\x00\x00\x01\x00\x02"} {
		wantBad := func(want api.Errno, place int, l ...api.Ins) {
			t.Helper()
			u := unit(2, 1, 0, 1, l...)
			u.Table = table
			wantCheck(t, u, want, place)
		}
		for _, b := range bad {
			for _, later := range bad {
				wantBad(b.err, 0, b.x, later.x)
				wantBad(b.err, 1, out, b.x, later.x, out)
				wantBad(b.err, 2, ret, out, b.x, out, later.x)
			}
			// A fault of the last instruction comes ahead of the end that it does not make.
			wantBad(b.err, 1, out, b.x)
		}
		wantBad(api.ErrEnd, 2, ret, ret, out)
	}
}

func TestP7TheEnd(t *testing.T) {
	for _, s := range shapes {
		for _, count := range []int{1, 2, 40, 41, 163, 164} {
			l := returns(count)
			l[count-1] = api.Ins{Op: s.op}
			if s.op == api.Jump || s.op == api.Return {
				wantCheck(t, unit(2, 1, 0, 1, l...), api.OK, 0)
			} else {
				wantCheck(t, unit(2, 1, 0, 1, l...), api.ErrEnd, count-1)
			}
		}
	}
	// A trapping Div and an If that always jumps end nothing.
	wantCheck(t, unit(2, 0, 0, 0, api.Ins{Op: api.Div}), api.ErrEnd, 0)
	wantCheck(t, unit(2, 0, 0, 0, api.Ins{Op: api.Const, A: 1}, api.Ins{Op: api.If}), api.ErrEnd, 1)
}

func TestP7WhatEncodeDoesNotWrite(t *testing.T) {
	u := unit(16, 16, 0, 4, returns(164)...)
	for _, table := range []string{
		"", "\x01", "\x00\x00", "\x80\x00", "\x80", "no table",
		// Cut off, too long, and with a number in more bytes than it needs.
		"\x01\x00\x00\x01\x00", "\x01\x00\x00\x01\x00\x00\x00", "\x02\x00\x00\x01\x00\x00", "\x01\x00\x80\x00\x01\x00\x00", "\x81\x00\x00\x00\x01\x00\x00",
		// A Var of 4, a length of 0, a To of 165, a Kind of 3, an At of 65536.
		"\x01\x04\x00\x01\x00\x00", "\x01\x00\x00\x00\x00\x00", "\x01\x00\x01\xa4\x01\x00\x00", "\x01\x00\x00\x01\x03\x00", "\x01\x00\x00\x01\x02\x80\x80\x04",
		// The Vars fall, two ranges overlap, the second begins ahead of the first, two touch and are alike.
		"\x02\x01\x00\x01\x00\x00\x00\x00\x01\x00\x00", "\x02\x00\x00\x02\x00\x00\x00\x01\x02\x00\x01", "\x02\x00\x05\x01\x00\x00\x00\x00\x01\x00\x01", "\x02\x00\x00\x02\x00\x01\x00\x02\x01\x00\x01",
	} {
		u.Table = table
		wantCheck(t, u, api.ErrTable, 0)
	}
	for _, table := range []string{"\x00", "\x01\x03\x00\xa4\x01\x00\x0f", "\x01\x00\x00\x01\x02\xff\xff\x03", "\x02\x00\x00\x02\x00\x01\x00\x02\x01\x00\x02", "\x02\x00\x00\x01\x00\x00\x01\x00\x01\x00\x00"} {
		u.Table = table
		wantCheck(t, u, api.OK, 0)
	}
}

// wantTable: the unit with this one range, and with it ahead of right ones and behind right ones.
func wantTable(t *testing.T, u api.Unit, g api.Range, want api.Errno) {
	t.Helper()
	wantCheck(t, with(u, g), want, 0)
	if g.From > 0 && g.Var < u.Vars {
		wantCheck(t, with(u, at(g.Var, 0, 1, api.IsConst, 777), g), want, 0)
	}
	if g.Var > 0 {
		wantCheck(t, with(u, at(0, 0, 1, api.InReg, 1), g), want, 0)
	}
	if g.Var < u.Vars-1 {
		wantCheck(t, with(u, g, at(u.Vars-1, 0, 1, api.InReg, 1)), want, 0)
	}
}

func TestP7VarsOfRanges(t *testing.T) {
	for vars := 0; vars <= 4; vars++ {
		for v := 0; v <= 3; v++ {
			want := api.OK
			if v >= vars {
				want = api.ErrTable
			}
			for kind := 0; kind <= 2; kind++ {
				wantTable(t, unit(2, 1, 0, vars, returns(3)...), at(v, 1, 2, kind, 0), want)
			}
		}
	}
}

func TestP7EndsOfRanges(t *testing.T) {
	for _, count := range []int{1, 2, 3, 40, 127, 128, 163, 164} {
		for _, to := range []int{1, 2, 3, 4, 40, 41, 127, 128, 129, 163, 164} {
			for _, from := range []int{0, 1, to - 1} {
				want := api.OK
				if to > count {
					want = api.ErrTable
				}
				for kind := 0; kind <= 2; kind++ {
					if from < to {
						wantTable(t, unit(2, 1, 0, 2, returns(count)...), at(0, from, to, kind, 0), want)
						wantTable(t, unit(2, 1, 0, 2, returns(count)...), at(1, from, to, kind, 0), want)
					}
				}
			}
		}
	}
}

func TestP7PlacesOfRanges(t *testing.T) {
	for k := 2; k <= 16; k++ {
		for slots := 0; slots <= 16; slots++ {
			u := unit(k, slots, 0, 3, returns(5)...)
			for _, n := range []int{0, 1, k - 1, k, k + 1, max(slots-1, 0), slots, slots + 1, 15, 16, 17, 127, 128, 65535} {
				inReg, inSlot := api.OK, api.OK
				if n >= k {
					inReg = api.ErrTable
				}
				if n >= slots {
					inSlot = api.ErrTable
				}
				wantTable(t, u, at(1, 1, 3, api.InReg, n), inReg)
				wantTable(t, u, at(1, 1, 3, api.InSlot, n), inSlot)
				wantTable(t, u, at(1, 1, 3, api.IsConst, n), api.OK)
			}
		}
	}
}

// A table may be as long as any is; each of its ranges is looked at.
func TestP7LongTables(t *testing.T) {
	u := unit(2, 1, 0, 4, returns(150)...)
	l := []api.Range{}
	for i := 0; i < 200; i++ {
		l = append(l, at(i/50, i%50*3, i%50*3+2, api.InReg, i%2))
	}
	wantCheck(t, with(u, l...), api.OK, 0)
	for i := range l {
		bad := slices.Clone(l)
		bad[i].At = 2
		wantCheck(t, with(u, bad...), api.ErrTable, 0)
	}
}

// Code that is mostly right, with now and then a number out of its range.
func TestP7ByTheWords(t *testing.T) {
	r := rand.New(rand.NewSource(7))
	found := [16]int{}
	number := func(limit int) int {
		if r.Intn(80) == 0 {
			return []int{-1, limit, 100, 65536, ends[r.Intn(len(ends))]}[r.Intn(5)]
		}
		return r.Intn(limit)
	}
	for i := 0; i < 100000; i++ {
		k, slots, count := 2+r.Intn(15), 1+r.Intn(16), 1+r.Intn(40)
		u := unit(k, slots, r.Intn(min(slots, 4)+1), r.Intn(5), make([]api.Ins, count)...)
		for j := range u.Code {
			op := number(14)
			if op == 12 || op == 13 {
				op += 3
			}
			u.Code[j] = api.Ins{Op: op, D: number(min(k, slots)), A: number(min(k, slots, count)), B: number(min(k, count))}
		}
		if r.Intn(2) == 0 {
			u.Code[count-1].Op = api.Return
		}
		want, place := byTheWords(u)
		found[want]++
		wantCheck(t, u, want, place)
	}
	for _, err := range []api.Errno{api.OK, api.ErrOp, api.ErrReg, api.ErrConst, api.ErrTarget, api.ErrStop, api.ErrSlot, api.ErrEnd} {
		if found[err] < 100 {
			t.Errorf("only %d units with the answer %d", found[err], err)
		}
	}
}

// No string of bytes makes Check panic, and it finds right just those that can be read and that name what is there.
func TestP1P7AnyTable(t *testing.T) {
	r := rand.New(rand.NewSource(77))
	u := unit(3, 2, 0, 2, returns(4)...)
	right := 0
	for i := 0; i < 300000; i++ {
		b := make([]byte, r.Intn(13))
		for j := range b {
			b[j] = byte(r.Intn(4))
			if r.Intn(50) == 0 {
				b[j] = byte(r.Intn(256))
			}
		}
		if len(b) > 0 && r.Intn(2) == 0 {
			b[0] = byte(len(b) / 5)
		}
		u.Table = string(b)
		want := api.OK
		l, err := leb.Decode(u.Table)
		if err != api.OK {
			want = api.ErrTable
		}
		for _, g := range l {
			if g.Var > 1 || g.To > 4 || g.Kind == api.InReg && g.At > 2 || g.Kind == api.InSlot && g.At > 1 {
				want = api.ErrTable
			}
		}
		if want == api.OK && len(l) > 0 {
			right++
		}
		wantCheck(t, u, want, 0)
	}
	if right < 1000 {
		t.Errorf("only %d right tables with a range", right)
	}
}

// What is behind the list is not written, nor the list itself.
func TestP2CheckLeavesTheCode(t *testing.T) {
	for _, last := range []int{api.Return, api.Out, api.Bind, -1} {
		room := make([]api.Ins, 30)
		for i := range room {
			room[i] = api.Ins{Op: api.Add, D: i % 3, A: 1, B: 2}
		}
		room[19].Op = last
		before := slices.Clone(room)
		for _, table := range []string{noRanges, "", "\x01\x00\x00\x01\x00\x01"} {
			u := unit(3, 2, 1, 1)
			u.Code = room[5:20]
			u.Table = table
			err, at := Check(u)
			again, place := Check(u)
			if err != again || at != place {
				t.Errorf("Check answers %d, %d and then %d, %d", err, at, again, place)
			}
			if !slices.Equal(room, before) {
				t.Error("Check has written into the code, or beside it")
			}
		}
	}
}
