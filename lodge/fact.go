package lodge

import "lodge/api"

// What is known of a variable at an instruction.
const (
	unseen = 0 // nothing, as no way to the instruction has been found
	unsure = 1 // that it has no value, or not on all ways the same
	tied   = 2 // which constant it has
	bound  = 3 // which register holds its value
)

// fact has, beside one of these, the constant or the register.
type fact struct {
	kind, at int
}

// factList has what is known of each variable, at each instruction of a program.
type factList struct {
	at [api.MaxCode][api.MaxVars]fact
}

// findFacts finds what holds on every way to each instruction of a checked program (P12).
func findFacts(list []api.Ins) factList {
	facts := factList{}
	for v := 0; v < api.MaxVars; v++ {
		facts.at[0][v] = fact{kind: unsure}
	}
	// At an instruction a fact changes twice at the most: from unseen to something, and from that to unsure.
	// As each pass changes a fact of a variable, unless all of them are found, so many passes find them.
	for pass := 0; pass < 2*len(list); pass++ {
		for i := 0; i < len(list); i++ {
			facts.spread(list[i], i)
		}
	}
	return facts
}

// spread brings what is known behind x, which stands at i, to the instructions that may come next.
func (facts *factList) spread(x api.Ins, i int) {
	first, second := nextOf(x, i)
	for v := 0; v < api.MaxVars; v++ {
		f := factBehind(x, v, facts.at[i][v])
		if first != none {
			facts.at[first][v] = meet(facts.at[first][v], f)
		}
		if second != none {
			facts.at[second][v] = meet(facts.at[second][v], f)
		}
	}
}

// factBehind tells what is known of the variable v behind x, if ahead of x it is f.
func factBehind(x api.Ins, v int, f fact) fact {
	// Where no way leads, nothing is bound, tied or freed, on any way.
	if f.kind == unseen {
		return f
	}
	if f.kind == bound && writes(x, f.at) {
		return fact{kind: unsure}
	}
	names := x.Op == api.Bind || x.Op == api.Tie || x.Op == api.Free
	if !names || x.D != v {
		return f
	}
	switch x.Op {
	case api.Bind:
		return fact{kind: bound, at: x.A}
	case api.Tie:
		return fact{kind: tied, at: x.A}
	}
	return fact{kind: unsure}
}

// meet tells what is known where two ways come together.
func meet(f, g fact) fact {
	if f.kind == unseen {
		return g
	}
	if g.kind == unseen || f == g {
		return f
	}
	return fact{kind: unsure}
}
