package mach

import (
	"lodge/api"
	"lodge/code"
	"lodge/leb"
)

// notTold is told of a variable that the table has nowhere.
const notTold = -1

// run is a run of a unit: beside the registers there are the slots, and the table that is asked.
type run struct {
	base  code.Run
	slots [api.MaxSlots]int
	table []api.Range
}

// Run runs a unit, and asks its table at each Stop (P8).
func Run(u api.Unit, args []int, fuel int) (api.Result, api.Errno) {
	err, _ := Check(u)
	if err != api.OK {
		return api.Result{}, err
	}
	err = code.StartError(args, u.Params, fuel)
	if err != api.OK {
		return api.Result{}, err
	}
	// Check has seen to it that the table can be read, and that no run goes on behind the last instruction.
	table, _ := leb.Decode(u.Table)
	r := begin(args, table)
	for r.base.Running && r.base.Result.Steps < fuel {
		r.step(u.Code[r.base.At])
	}
	return r.base.Result, api.OK
}

func begin(args []int, table []api.Range) run {
	r := run{base: code.Begin(), table: table}
	for i := 0; i < len(args); i++ {
		r.slots[i] = args[i]
	}
	return r
}

func (r *run) step(x api.Ins) {
	switch x.Op {
	case api.Stop:
		told := r.ask(r.base.At)
		r.base.See(x.A, told)
	case api.Load:
		r.base.Regs[x.D] = r.slots[x.A]
	case api.Store:
		r.slots[x.D] = r.base.Regs[x.A]
	}
	r.base.Do(x)
}

// ask tells of each variable the value that the table knows of at the instruction i.
func (r *run) ask(i int) [api.MaxVars]int {
	told := [api.MaxVars]int{}
	for v := 0; v < len(told); v++ {
		told[v] = notTold
	}
	for j := 0; j < len(r.table); j++ {
		g := r.table[j]
		if g.From <= i && i < g.To {
			told[g.Var] = r.held(g)
		}
	}
	return told
}

func (r *run) held(g api.Range) int {
	switch g.Kind {
	case api.InReg:
		return r.base.Regs[g.At]
	case api.InSlot:
		return r.slots[g.At]
	}
	return g.At
}
