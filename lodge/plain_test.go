package lodge_test

import (
	"math"
	"math/rand"
	"slices"
	"testing"

	"lodge/api"
)

// twin is alike but for Vars, and for what stands at the Binds, Ties and Frees.
func twin(r *rand.Rand, p api.Prog) api.Prog {
	q := p
	q.Vars = r.Intn(5)
	q.Code = slices.Clone(p.Code)
	for i, x := range q.Code {
		if x.Op >= api.Bind {
			q.Vars = max(q.Vars, 1)
			q.Code[i] = api.Ins{}
		}
	}
	for i, x := range p.Code {
		if x.Op >= api.Bind {
			q.Code[i] = drawnIns(r, q, []int{api.Bind, api.Tie, api.Free}[r.Intn(3)], 0)
		}
	}
	return q
}

func wantTwins(t *testing.T, p, q api.Prog) {
	t.Helper()
	for k := 2; k <= 16; k++ {
		u, v := compile(t, p, k), compile(t, q, k)
		if !slices.Equal(u.Code, v.Code) || u.Slots != v.Slots {
			t.Fatalf("P14: k %d: %+v and %+v: the units %s and %s", k, p, q, show(u), show(v))
		}
	}
}

func TestP14Drawn(t *testing.T) {
	for i, kind := range kinds {
		r := rand.New(rand.NewSource(int64(400 + i)))
		for range 100 {
			p := drawn(r, kind)
			wantTwins(t, p, twin(r, p))
		}
	}
	r := rand.New(rand.NewSource(14))
	for range 100 {
		p := looped(r)
		wantTwins(t, p, twin(r, p))
		p = crowded(r, r.Intn(5), 4+r.Intn(9))
		wantTwins(t, p, twin(r, p))
	}
}

func TestP14ByHand(t *testing.T) {
	r := rand.New(rand.NewSource(41))
	for range 10 {
		for _, c := range byHand {
			wantTwins(t, c.p, twin(r, c.p))
		}
		for _, c := range toldCases {
			wantTwins(t, c.p, twin(r, c.p))
		}
	}
	// A Bind to a register that is read no more keeps no place for it; all Binds of one register, and of twelve.
	for reg := 0; reg < 12; reg++ {
		p := prog(2, 12, 4, set(2, 5), bind(0, 2), out(2), bind(1, 0), set(3, 6), bind(2, 3), out(3), bind(3, 1), stop(1), ret(0))
		q := prog(2, 12, 1, set(2, 5), bind(0, reg), out(2), bind(0, reg), set(3, 6), bind(0, reg), out(3), bind(0, reg), stop(1), ret(0))
		wantTwins(t, p, q)
	}
	for vars := 0; vars <= 4; vars++ {
		p, q := prog(2, 3, 0, add(2, 0, 1), stop(1), out(2), ret(0)), prog(2, 3, vars, add(2, 0, 1), stop(1), out(2), ret(0))
		wantTwins(t, p, q)
	}
}

// The fields that an Op does not have are not looked at, so the unit is the same.
func TestP14FieldsThatAnOpDoesNotHave(t *testing.T) {
	for _, n := range []int{math.MinInt, -1, 1, 65536, math.MaxInt} {
		p := prog(1, 3, 1,
			api.Ins{Op: api.Const, D: 1, A: 4, B: n}, api.Ins{Op: api.Copy, D: 2, A: 0, B: n}, api.Ins{Op: api.Bind, D: 0, A: 0, B: n},
			api.Ins{Op: api.Stop, D: n, A: 1, B: n}, api.Ins{Op: api.Tie, D: 0, A: 2, B: n}, api.Ins{Op: api.Stop, D: n, A: 2, B: n},
			api.Ins{Op: api.Free, D: 0, A: n, B: n}, api.Ins{Op: api.If, D: n, A: 0, B: 9}, api.Ins{Op: api.Return, D: n, A: 2, B: n},
			api.Ins{Op: api.Out, D: n, A: 1, B: n}, api.Ins{Op: api.Jump, D: n, A: 8, B: n})
		q := p
		q.Code = slices.Clone(p.Code)
		for i, x := range q.Code {
			switch x.Op {
			case api.Const, api.Copy, api.Bind, api.Tie:
				x.B = 0
			case api.If:
				x.D = 0
			case api.Free:
				x.A, x.B = 0, 0
			default:
				x.D, x.B = 0, 0
			}
			q.Code[i] = x
		}
		wantTwins(t, p, q)
		for k := 2; k <= 16; k++ {
			if u, v := compile(t, p, k), compile(t, q, k); u.Table != v.Table {
				t.Errorf("k %d: the tables %q and %q", k, u.Table, v.Table)
			}
			pairOf(t, p, k).wantRuns(t, []int{6}, 30, &tally{})
		}
	}
}
