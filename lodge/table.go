package lodge

import "lodge/api"

// rangeList is a table that grows, by rising Var and From.
type rangeList struct {
	list []api.Range
}

// findRanges tells of each variable at each Stop where it is, as far as that is known; starts has where the Stops
// stand in the unit. Elsewhere the table is never asked.
func findRanges(p api.Prog, live liveSets, homes homeList, starts [api.MaxCode]int) []api.Range {
	facts := findFacts(p.Code)
	table := rangeList{}
	for v := 0; v < p.Vars; v++ {
		for i := 0; i < len(p.Code); i++ {
			f := facts.at[i][v]
			if p.Code[i].Op == api.Stop && canBeTold(f, live.at[i]) {
				kind, at := placeOf(f, homes)
				table.add(api.Range{Var: v, From: starts[i], To: starts[i] + 1, Kind: kind, At: at})
			}
		}
	}
	return table.list
}

// canBeTold: the home of a register that is not live may hold what is another's.
func canBeTold(f fact, live regSet) bool {
	return f.kind == tied || f.kind == bound && live[f.at]
}

// placeOf tells the Kind and the At of a variable of which it is known that it is tied or bound.
func placeOf(f fact, homes homeList) (int, int) {
	if f.kind == tied {
		return api.IsConst, f.at
	}
	if homes[f.at].inSlot {
		return api.InSlot, homes[f.at].at
	}
	return api.InReg, homes[f.at].at
}

// add makes the last range longer if g goes on with it: in a table no two that touch are alike.
func (t *rangeList) add(g api.Range) {
	last := len(t.list) - 1
	if last >= 0 && goesOn(t.list[last], g) {
		t.list[last].To = g.To
		return
	}
	t.list = append(t.list, g)
}

func goesOn(a, b api.Range) bool {
	return a.Var == b.Var && a.To == b.From && a.Kind == b.Kind && a.At == b.At
}
