package lodge_test

import (
	"testing"

	"lodge/api"
)

// Of what a variable is told at a Stop by hand: its value; any: it may be told, if it is true; no: it has no value that could be.
const (
	anything = -2
	no       = -1
)

type toldCase struct {
	name string
	p    api.Prog
	args [][]int
	want [][][]int // by args, by Stop, by variable
}

// far has a register that is read only at the end, behind a loop and other Stops.
var far = prog(2, 6, 2,
	add(2, 0, 1), bind(0, 2), set(3, 1), set(4, 3),
	stop(1), sub(4, 4, 3), bind(1, 4), stop(2), branch(4, 4),
	set(5, 9), out(5), jump(13), ret(5),
	stop(3), out(0), out(1), stop(4), out(2), stop(5), ret(3))

var toldCases = []toldCase{
	{"the document's, the register being live", prog(2, 3, 1, add(2, 0, 1), bind(0, 2), stop(7), out(2), set(2, 9), stop(8), out(2), ret(0)),
		[][]int{{3, 4}}, [][][]int{{{7}, {anything}}}},
	{"the document's, the register not being live", prog(2, 3, 1, add(2, 0, 1), bind(0, 2), stop(7), set(2, 9), stop(8), out(2), ret(0)),
		[][]int{{3, 4}}, [][][]int{{{anything}, {anything}}}},
	{"nothing is bound yet", prog(1, 1, 4, stop(1), bind(0, 0), stop(2), tie(3, 0), stop(3), ret(0)),
		[][]int{{4}}, [][][]int{{{no, no, no, no}, {4, no, no, no}, {4, no, no, 0}}}},
	{"bound on one of two ways alone", prog(1, 2, 1, branch(0, 2), bind(0, 0), stop(1), out(0), ret(0)),
		[][]int{{0}, {6}}, [][][]int{{{anything}}, {{no}}}},
	{"tied on one of two ways alone", prog(1, 2, 1, branch(0, 2), tie(0, 5), stop(1), ret(0)),
		[][]int{{0}, {6}}, [][][]int{{{anything}}, {{no}}}},
	{"tied on one way and bound on the other", prog(1, 2, 1, branch(0, 3), tie(0, 5), jump(4), bind(0, 0), stop(1), ret(0)),
		[][]int{{0}, {6}}, [][][]int{{{anything}}, {{anything}}}},
	{"tied to two constants", prog(1, 2, 1, branch(0, 3), tie(0, 5), jump(4), tie(0, 6), stop(1), ret(0)),
		[][]int{{0}, {6}}, [][][]int{{{anything}}, {{anything}}}},
	{"tied to one constant on both ways", prog(1, 2, 1, branch(0, 3), tie(0, 5), jump(4), tie(0, 5), stop(1), ret(0)),
		[][]int{{0}, {6}}, [][][]int{{{5}}, {{5}}}},
	{"bound to two registers", prog(2, 3, 1, branch(0, 3), bind(0, 0), jump(4), bind(0, 1), stop(1), out(0), ret(1)),
		[][]int{{0, 4}, {6, 3}}, [][][]int{{{anything}}, {{anything}}}},
	{"bound to one register on both ways", prog(2, 3, 1, branch(0, 3), bind(0, 1), jump(4), bind(0, 1), stop(1), out(0), ret(1)),
		[][]int{{0, 4}, {6, 3}}, [][][]int{{{4}}, {{3}}}},
	{"bound to one register, which one way writes again", prog(2, 3, 1, bind(0, 1), branch(0, 3), set(1, 9), stop(1), out(0), ret(1)),
		[][]int{{0, 4}, {6, 3}}, [][][]int{{{anything}}, {{anything}}}},
	{"bound again where it was written again", prog(2, 3, 1, bind(0, 1), branch(0, 4), set(1, 9), bind(0, 1), stop(1), out(0), ret(1)),
		[][]int{{0, 4}, {6, 3}}, [][][]int{{{9}}, {{3}}}},
	{"written again behind the Bind", prog(1, 2, 1, bind(0, 0), stop(1), add(0, 0, 0), stop(2), move(0, 1), stop(3), set(0, 2), stop(4), ret(0)),
		[][]int{{4}}, [][][]int{{{4}, {anything}, {anything}, {anything}}}},
	{"freed", prog(1, 1, 2, bind(0, 0), tie(1, 8), stop(1), free(0), stop(2), free(1), stop(3), bind(1, 0), stop(4), ret(0)),
		[][]int{{4}}, [][][]int{{{4, 8}, {no, 8}, {no, no}, {no, 4}}}},
	{"freed on one way alone", prog(1, 1, 2, bind(0, 0), tie(1, 8), branch(0, 5), free(0), free(1), stop(1), ret(0)),
		[][]int{{0}, {6}}, [][][]int{{{no, no}}, {{anything, anything}}}},
	{"two variables in one register", prog(1, 2, 2, bind(0, 0), bind(1, 0), stop(1), free(0), stop(2), bind(0, 0), out(0), set(0, 3), bind(1, 0), stop(3), ret(0)),
		[][]int{{4}}, [][][]int{{{4, 4}, {no, 4}, {anything, 3}}}},
	{"the last of many", prog(2, 2, 1, bind(0, 0), bind(0, 1), stop(1), tie(0, 65535), stop(2), bind(0, 0), stop(3), tie(0, 0), tie(0, 1), stop(4), add(0, 0, 1), ret(0)),
		[][]int{{4, 7}}, [][][]int{{{7}, {65535}, {4}, {1}}}},
	{"live far behind the Stop", far,
		[][]int{{30, 4}}, [][][]int{{{34, no}, {34, 2}, {34, anything}, {34, 1}, {34, anything}, {34, 0}, {34, anything}, {34, anything}, {anything, anything}}}},
	{"live because of what comes only round the loop", prog(2, 3, 1, jump(3), out(1), ret(1), bind(0, 1), stop(1), branch(0, 1), stop(2), jump(4)),
		[][]int{{1, 8}}, [][][]int{{{8}}}},
	{"a loop that binds at its end", prog(2, 4, 2, bind(0, 0), bind(1, 1), set(2, 1), stop(1), sub(0, 0, 2), bind(0, 0), branch(0, 3), ret(1)),
		[][]int{{2, 9}}, [][][]int{{{2, 9}, {1, 9}}}},
	{"a loop that frees at its end", prog(1, 2, 1, set(1, 1), tie(0, 4), stop(1), sub(0, 0, 1), free(0), branch(0, 2), ret(1)),
		[][]int{{2}}, [][][]int{{{anything}, {no}}}},
	{"a loop back to the first instruction", prog(1, 2, 1, stop(1), tie(0, 4), stop(2), branch(0, 5), ret(1), set(0, 0), jump(0)),
		[][]int{{2}}, [][][]int{{{no}, {4}, {anything}, {4}}}},
	{"freed where no way leads", prog(1, 2, 2, tie(0, 5), bind(1, 0), jump(7), free(0), tie(1, 2), set(0, 8), jump(7), stop(1), ret(0)),
		[][]int{{2}}, [][][]int{{{5, 2}}}},
	{"an If that leads to the next", prog(1, 1, 1, bind(0, 0), branch(0, 2), stop(1), ret(0)),
		[][]int{{2}, {0}}, [][][]int{{{2}}, {{0}}}},
	{"a register that nothing wrote", prog(1, 6, 2, bind(0, 5), bind(1, 4), stop(1), out(5), stop(2), out(4), out(0), ret(3)),
		[][]int{{9}}, [][][]int{{{0, 0}, {anything, 0}}}},
	{"an arg over another", prog(2, 2, 2, bind(0, 0), bind(1, 1), stop(1), move(0, 1), stop(2), bind(0, 0), stop(3), out(0), ret(1)),
		[][]int{{5, 6}}, [][][]int{{{anything, 6}, {anything, 6}, {6, 6}}}},
	{"an arg over another, which is read ahead", prog(2, 2, 2, bind(0, 0), bind(1, 1), stop(1), out(0), move(0, 1), stop(2), out(0), ret(1)),
		[][]int{{5, 6}}, [][][]int{{{5, 6}, {anything, 6}}}},
	{"live where the Return reads it", prog(4, 4, 4, bind(3, 0), bind(2, 1), bind(1, 2), bind(0, 3), stop(1), branch(0, 7), ret(1), branch(2, 9), ret(2), ret(3)),
		[][]int{{1, 2, 3, 4}}, [][][]int{{{4, 3, 2, 1}}}},
	{"one variable takes over from another", prog(1, 1, 3, tie(0, 5), stop(1), free(0), tie(1, 5), stop(2), free(1), bind(1, 0), stop(3), free(1), bind(2, 0), stop(4), ret(0)),
		[][]int{{4}}, [][][]int{{{5, no, no}, {no, 5, no}, {no, 4, no}, {no, no, 4}}}},
	{"Stops that touch", prog(1, 1, 2, bind(0, 0), stop(1), stop(2), tie(0, 3), stop(3), bind(1, 0), tie(0, 3), stop(4), tie(0, 4), stop(5), bind(0, 0), stop(6), ret(0)),
		[][]int{{4}}, [][][]int{{{4, no}, {4, no}, {3, no}, {3, 4}, {4, 4}, {4, 4}}}},
}

// wantTold holds what is told at a Stop against what was said by hand.
func wantTold(t *testing.T, c toldCase, u api.Unit, at int, told [api.MaxVars]int, want []int) {
	t.Helper()
	for v := range told {
		n := no
		if v < len(want) {
			n = want[v]
		}
		if n != anything && told[v] != n {
			t.Fatalf("P11, P12: %s, k %d: at the Stop that comes %d of variable %d is told %d, want %d; the unit %s", c.name, u.K, at, v, told[v], n, show(u))
		}
	}
}

func TestP11P12ByHand(t *testing.T) {
	for _, c := range toldCases {
		for k := 2; k <= 16; k++ {
			pair := pairOf(t, c.p, k)
			for i, args := range c.args {
				for n := 0; n < 60; n++ {
					pair.wantRuns(t, args, n, &tally{})
				}
				b := pair.runUnit(t, args, 1000)
				if len(b.Stops) != len(c.want[i]) {
					t.Fatalf("P10: %s, k %d: %d Stops, want %d; the unit %s", c.name, k, len(b.Stops), len(c.want[i]), show(pair.u))
				}
				for j, s := range b.Stops {
					wantTold(t, c, pair.u, j, s.Vars, c.want[i][j])
				}
			}
		}
	}
}

// What this test holds for the truth (mustTell) is held against what was said by hand: what it asks for was asked for there.
func TestP12ByTheWaysAndByHand(t *testing.T) {
	for _, c := range toldCases {
		must := mustTell(c.p)
		for i, args := range c.args {
			r := pairOf(t, c.p, 4).runProg(t, args, 1000)
			for j, s := range r.Stops {
				place := placeOf(c.p, s.Stop)
				for v := 0; v < c.p.Vars; v++ {
					told := c.want[i][j][v]
					if (told >= 0) != (must[place][v] != -1) {
						t.Errorf("%s: at the Stop at %d P12 asks for variable %d: %d; by hand %d", c.name, place, v, must[place][v], told)
					}
					if told != anything && told != s.Vars[v] {
						t.Errorf("%s: at the Stop at %d variable %d is %d; by hand %d", c.name, place, v, s.Vars[v], told)
					}
				}
			}
		}
	}
}

// Of a variable that the program does not have, nothing is told, whatever the table is asked.
func TestP11VariablesFromVarsOn(t *testing.T) {
	for vars := 0; vars <= 4; vars++ {
		p := prog(1, 1, vars)
		for v := 0; v < vars; v++ {
			p.Code = append(p.Code, bind(v, 0))
		}
		p.Code = append(p.Code, stop(1), ret(0))
		for k := 2; k <= 16; k++ {
			b := pairOf(t, p, k).runUnit(t, []int{7}, 100)
			want := [4]int{-1, -1, -1, -1}
			for v := 0; v < vars; v++ {
				want[v] = 7
			}
			if len(b.Stops) != 1 || b.Stops[0].Vars != want {
				t.Errorf("%d variables, k %d: %v, want %v", vars, k, b.Stops, want)
			}
		}
	}
}
