package lodge_test

import (
	"math/rand"
	"slices"
	"testing"

	"lodge/api"
)

// wantFew: P13, at every k; it tells at how many of them the colours are too many.
func wantFew(t *testing.T, p api.Prog) int {
	t.Helper()
	l, c := colours(p)
	many := 0
	for k := 2; k <= 16; k++ {
		u := compile(t, p, k)
		loads, stores := countOps(u, api.Load), countOps(u, api.Store)
		if c <= k && (stores > 0 || loads > p.Params) {
			t.Fatalf("P13: %+v, k %d, %d colours: %d Loads, %d Stores: %s", p, k, c, loads, stores, show(u))
		}
		if c > k {
			many++
			if h := fieldsFrom(p, l, k-2); loads+stores > p.Params+h {
				t.Fatalf("P13: %+v, k %d, colours %v, h %d: %d Loads, %d Stores: %s", p, k, l, h, loads, stores, show(u))
			}
		}
	}
	return many
}

// The colours as the document has them, by hand.
func TestP13Colours(t *testing.T) {
	for _, c := range []struct {
		p    api.Prog
		want []int
	}{
		{prog(2, 2, 0, add(0, 0, 1), ret(0)), []int{0, 1}},
		{prog(0, 4, 0, set(0, 1), set(1, 2), set(2, 3), add(3, 0, 1), add(3, 3, 2), ret(3)), []int{0, 1, 2, 0}},
		{prog(1, 5, 0, set(1, 1), set(2, 2), set(3, 3), set(4, 4), add(0, 0, 1), add(0, 0, 2), add(0, 0, 3), add(0, 0, 4), ret(0)), []int{0, 1, 2, 3, 4}},
		// Registers that nobody names, and args that nobody reads.
		{prog(4, 12, 0, ret(0)), make([]int, 12)},
		// Read though nothing wrote them: they are live at 0.
		{prog(0, 3, 0, out(2), out(1), ret(0)), []int{0, 1, 2}},
		// What is written and never read collides with what is live behind it.
		{prog(1, 2, 0, set(1, 4), ret(0)), []int{0, 1}},
		// A Bind reads nothing.
		{prog(0, 2, 1, set(0, 3), bind(0, 0), set(1, 4), bind(0, 0), stop(1), ret(1)), []int{0, 0}},
		// Where no way leads, registers collide all the same.
		{prog(1, 3, 0, ret(0), set(1, 1), set(2, 2), add(0, 1, 2), ret(0)), []int{0, 0, 1}},
		// Round a loop.
		{prog(1, 3, 0, set(1, 1), set(2, 5), out(2), sub(0, 0, 1), branch(0, 1), ret(0)), []int{0, 1, 2}},
		// A copy of what is read no more takes its place; of what is, it does not.
		{prog(1, 3, 0, move(1, 0), move(2, 1), out(1), ret(2)), []int{0, 0, 1}},
		// Colours are given by the order of the registers: 2 collides with neither of 0 and 1, 3 with 2 alone.
		{prog(0, 4, 0, set(0, 1), set(1, 2), add(2, 0, 1), set(3, 1), add(0, 2, 3), ret(0)), []int{0, 1, 0, 1}},
	} {
		if l, _ := colours(c.p); !slices.Equal(l, c.want) {
			t.Errorf("the colours of %+v are %v, by hand %v", c.p, l, c.want)
		}
		wantFew(t, c.p)
	}
}

func TestP13Examples(t *testing.T) {
	two := prog(2, 2, 0, add(0, 0, 1), ret(0))
	three := prog(0, 4, 0, set(0, 1), set(1, 2), set(2, 3), add(3, 0, 1), add(3, 3, 2), ret(3))
	for _, c := range []struct {
		p                    api.Prog
		k, loads, stores, or int // at most; or: both together
	}{
		{two, 2, 2, 0, 2}, {two, 16, 2, 0, 2},
		{three, 3, 0, 0, 0}, {three, 16, 0, 0, 0}, {three, 2, 10, 10, 10},
		{prog(4, 12, 0, ret(0)), 2, 4, 0, 4},
	} {
		u := compile(t, c.p, c.k)
		loads, stores := countOps(u, api.Load), countOps(u, api.Store)
		if loads > c.loads || stores > c.stores || loads+stores > c.or {
			t.Errorf("P13: %+v, k %d: %d Loads, %d Stores: %s", c.p, c.k, loads, stores, show(u))
		}
	}
}

func TestP13Drawn(t *testing.T) {
	for i, kind := range kinds {
		r := rand.New(rand.NewSource(int64(300 + i)))
		many := 0
		for range 150 {
			many += wantFew(t, drawn(r, kind))
		}
		if many == 0 {
			t.Errorf("%s: never too many colours", kind.name)
		}
	}
	r := rand.New(rand.NewSource(13))
	for range 200 {
		wantFew(t, looped(r))
	}
}

// At each number of colours, with as many registers of the machine, and with one less.
func TestP13Crowded(t *testing.T) {
	r := rand.New(rand.NewSource(31))
	for regs := 1; regs <= 12; regs++ {
		for params := 0; params <= min(4, regs); params++ {
			p := crowded(r, params, regs)
			if many := wantFew(t, p); many != max(0, regs-2) {
				t.Errorf("%d registers: too many colours at %d of the k", regs, many)
			}
		}
	}
}

func TestP13ByHand(t *testing.T) {
	for _, c := range byHand {
		wantFew(t, c.p)
	}
	for _, c := range toldCases {
		wantFew(t, c.p)
	}
}
