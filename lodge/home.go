package lodge

import "lodge/api"

// spares is how many registers of the machine are nobody's home where some homes are slots:
// an instruction reads two registers at the most.
const spares = 2

// home is where a register of a program is in a unit: a register of the machine, or a slot.
type home struct {
	inSlot bool
	at     int
}

// homeList has the homes of the registers of a program.
type homeList [api.MaxRegs]home

// collisions tells of each two registers of a program whether they collide.
type collisions struct {
	of [api.MaxRegs]regSet
}

// findHomes gives each register its colour as its home or, if there are more colours than registers of the machine,
// those of the great colours a slot each. No two of them share a slot, and a param has the one that its arg lies in.
func findHomes(p api.Prog, live liveSets, k int) homeList {
	colours := findColours(p, live)
	kept := k
	if countColours(p, colours) > k {
		kept = k - spares
	}
	homes := homeList{}
	for r := 0; r < p.Regs; r++ {
		homes[r] = home{at: colours[r]}
		if colours[r] >= kept {
			homes[r] = home{inSlot: true, at: r}
		}
	}
	return homes
}

// countSlots tells how many slots a unit needs: for the args, and as homes.
func countSlots(p api.Prog, homes homeList) int {
	slots := p.Params
	for r := p.Params; r < p.Regs; r++ {
		if homes[r].inSlot {
			slots = r + 1
		}
	}
	return slots
}

// findColours gives the registers their colours (P13).
func findColours(p api.Prog, live liveSets) [api.MaxRegs]int {
	hits := findCollisions(p, live)
	colours := [api.MaxRegs]int{}
	for r := 0; r < p.Regs; r++ {
		taken := regSet{}
		for s := 0; s < r; s++ {
			if hits.of[r][s] {
				taken[colours[s]] = true
			}
		}
		colours[r] = firstFree(taken)
	}
	return colours
}

// firstFree tells the least colour that is not taken: there is one, as a register has fewer ahead of it than there are.
func firstFree(taken regSet) int {
	n := 0
	for n < api.MaxRegs-1 && taken[n] {
		n++
	}
	return n
}

func countColours(p api.Prog, colours [api.MaxRegs]int) int {
	count := 0
	for r := 0; r < p.Regs; r++ {
		if colours[r] >= count {
			count = colours[r] + 1
		}
	}
	return count
}

// findCollisions looks at every instruction, also where no way leads (P13).
func findCollisions(p api.Prog, live liveSets) collisions {
	hits := collisions{}
	for r := 0; r < p.Regs; r++ {
		if live.at[0][r] {
			hits.add(r, live.at[0])
		}
	}
	for i := 0; i < len(p.Code); i++ {
		x := p.Code[i]
		// An instruction that writes is never the last one, and leads to the next alone.
		if isWriting(x.Op) {
			hits.add(x.D, live.at[i+1])
		}
	}
	return hits
}

// add: r collides with each of the set. (That it may be one of them itself makes no difference to its colour.)
func (hits *collisions) add(r int, set regSet) {
	for s := 0; s < api.MaxRegs; s++ {
		if set[s] {
			hits.of[r][s] = true
			hits.of[s][r] = true
		}
	}
}
