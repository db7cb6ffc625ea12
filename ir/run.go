package ir

import (
	"lodge/api"
	"lodge/code"
)

// noValue is seen of a variable that has none.
const noValue = -1

// run is a run of a program: beside the registers there are the values of the variables.
type run struct {
	base code.Run
	vars [api.MaxVars]int
}

// Run runs a program (P6).
func Run(p api.Prog, args []int, fuel int) (api.Result, api.Errno) {
	err, _ := Check(p)
	if err != api.OK {
		return api.Result{}, err
	}
	err = code.StartError(args, p.Params, fuel)
	if err != api.OK {
		return api.Result{}, err
	}
	r := begin(args)
	// Check has seen to it that no run goes on behind the last instruction.
	for r.base.Running && r.base.Result.Steps < fuel {
		r.step(p.Code[r.base.At])
	}
	return r.base.Result, api.OK
}

func begin(args []int) run {
	r := run{base: code.Begin()}
	for i := 0; i < len(args); i++ {
		r.base.Regs[i] = args[i]
	}
	for v := 0; v < len(r.vars); v++ {
		r.vars[v] = noValue
	}
	return r
}

func (r *run) step(x api.Ins) {
	switch x.Op {
	case api.Stop:
		r.base.See(x.A, r.vars)
	case api.Bind:
		r.vars[x.D] = r.base.Regs[x.A]
	case api.Tie:
		r.vars[x.D] = x.A
	case api.Free:
		r.vars[x.D] = noValue
	}
	r.base.Do(x)
}
