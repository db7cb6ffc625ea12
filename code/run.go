package code

import "lodge/api"

// Run is a run of checked code, as far as programs and units run alike.
// Its registers are as many as the greater of the two may have.
type Run struct {
	Regs    [api.MaxK]int
	At      int
	Running bool
	Result  api.Result
}

// StartError tells what is wrong with the args and the fuel of a run.
func StartError(args []int, params, fuel int) api.Errno {
	if len(args) != params {
		return api.ErrArgs
	}
	for i := 0; i < len(args); i++ {
		if args[i] < 0 || args[i] > api.MaxValue {
			return api.ErrArgs
		}
	}
	if fuel < 0 || fuel > api.MaxFuel {
		return api.ErrFuel
	}
	return api.OK
}

// Begin is a run that has done nothing yet: it is Spent, unless an instruction ends it otherwise.
func Begin() Run {
	return Run{Running: true, Result: api.Result{End: api.Spent}}
}

// Do counts the instruction x and goes on behind it. Of one that only programs or only units have,
// and of a Stop, the work itself is left to the caller.
func (r *Run) Do(x api.Ins) {
	r.Result.Steps++
	r.At++
	switch x.Op {
	case api.Const:
		r.Regs[x.D] = x.A
	case api.Copy:
		r.Regs[x.D] = r.Regs[x.A]
	case api.Add, api.Sub, api.Mul, api.Div, api.Less:
		r.reckon(x)
	case api.Jump:
		r.At = x.A
	case api.If:
		if r.Regs[x.A] != 0 {
			r.At = x.B
		}
	case api.Out:
		r.Result.Outs = append(r.Result.Outs, r.Regs[x.A])
	case api.Return:
		r.end(api.Returned, r.Regs[x.A])
	}
}

// reckon masks rather than takes the rest, so that it is right below 0 and however wide an int is.
func (r *Run) reckon(x api.Ins) {
	a := r.Regs[x.A]
	b := r.Regs[x.B]
	switch x.Op {
	case api.Add:
		r.Regs[x.D] = (a + b) & api.MaxValue
	case api.Sub:
		r.Regs[x.D] = (a - b) & api.MaxValue
	case api.Mul:
		r.Regs[x.D] = (a * b) & api.MaxValue
	case api.Div:
		if b == 0 {
			r.end(api.Trapped, 0)
			return
		}
		r.Regs[x.D] = a / b
	case api.Less:
		r.Regs[x.D] = 0
		if a < b {
			r.Regs[x.D] = 1
		}
	}
}

func (r *Run) end(how, value int) {
	r.Running = false
	r.Result.End = how
	r.Result.Value = value
}

// See adds what is seen at a Stop of this number.
func (r *Run) See(number int, vars [api.MaxVars]int) {
	r.Result.Stops = append(r.Result.Stops, api.Seen{Stop: number, Vars: vars})
}
