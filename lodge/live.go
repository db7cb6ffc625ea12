package lodge

import "lodge/api"

// none stands for an instruction that there is not.
const none = -1

// regSet tells of each register of a program whether it is one of the set.
type regSet [api.MaxRegs]bool

// liveSets has, of each instruction of a program, the registers that are live there.
type liveSets struct {
	at [api.MaxCode]regSet
}

// nextOf tells which instructions may come behind x, which stands at i: two, one or none.
func nextOf(x api.Ins, i int) (int, int) {
	switch x.Op {
	case api.Jump:
		return x.A, none
	case api.If:
		return x.B, i + 1
	case api.Return:
		return none, none
	}
	return i + 1, none
}

func isReckoning(op int) bool {
	return op >= api.Add && op <= api.Less
}

func isWriting(op int) bool {
	return op == api.Const || op == api.Copy || isReckoning(op)
}

func reads(x api.Ins, r int) bool {
	switch x.Op {
	case api.Copy, api.If, api.Out, api.Return:
		return x.A == r
	}
	return isReckoning(x.Op) && (x.A == r || x.B == r)
}

func writes(x api.Ins, r int) bool {
	return isWriting(x.Op) && x.D == r
}

// findLive tells which registers are live at each instruction of a checked program (P12).
func findLive(list []api.Ins) liveSets {
	live := liveSets{}
	// The shortest way to an instruction that reads comes by none twice: so many passes follow it to its beginning.
	for pass := 0; pass < len(list); pass++ {
		for i := len(list) - 1; i >= 0; i-- {
			live.update(list[i], i)
		}
	}
	return live
}

func (live *liveSets) update(x api.Ins, i int) {
	first, second := nextOf(x, i)
	for r := 0; r < api.MaxRegs; r++ {
		later := first != none && live.at[first][r] || second != none && live.at[second][r]
		live.at[i][r] = reads(x, r) || later && !writes(x, r)
	}
}
