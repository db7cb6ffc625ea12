package lodge

import "lodge/api"

// writer writes the code of a unit. starts has, of each instruction of the program, where what comes of it begins;
// of a Bind, a Tie and a Free nothing comes, so what comes of the next instruction begins there.
type writer struct {
	homes  homeList
	k      int
	code   []api.Ins
	starts [api.MaxCode]int
}

// writeProg writes the code of a checked program; live are the registers that are so at its beginning.
func (w *writer) writeProg(p api.Prog, live regSet) {
	w.loadParams(p.Params, live)
	for i := 0; i < len(p.Code); i++ {
		w.starts[i] = len(w.code)
		w.writeIns(p.Code[i])
	}
	w.setTargets()
}

// loadParams leaves out a param that is not live: its home may be that of a register that is.
func (w *writer) loadParams(params int, live regSet) {
	for r := 0; r < params; r++ {
		to := w.homes[r]
		if live[r] && !to.inSlot {
			w.put(api.Ins{Op: api.Load, D: to.at, A: r})
		}
	}
}

// setTargets comes last, as a target may be further on.
func (w *writer) setTargets() {
	for i := 0; i < len(w.code); i++ {
		x := w.code[i]
		switch x.Op {
		case api.Jump:
			w.code[i].A = w.starts[x.A]
		case api.If:
			w.code[i].B = w.starts[x.B]
		}
	}
}

func (w *writer) put(x api.Ins) {
	w.code = append(w.code, x)
}

// writeIns writes what comes of an instruction, with its target as it is in the program.
func (w *writer) writeIns(x api.Ins) {
	switch x.Op {
	case api.Const:
		d := w.goal(x.D)
		w.put(api.Ins{Op: api.Const, D: d, A: x.A})
		w.keep(x.D)
	case api.Copy:
		w.writeCopy(x)
	case api.Add, api.Sub, api.Mul, api.Div, api.Less:
		a := w.fetch(x.A, 0)
		b := w.fetch(x.B, 1)
		d := w.goal(x.D)
		w.put(api.Ins{Op: x.Op, D: d, A: a, B: b})
		w.keep(x.D)
	case api.If:
		a := w.fetch(x.A, 0)
		w.put(api.Ins{Op: api.If, A: a, B: x.B})
	case api.Out, api.Return:
		a := w.fetch(x.A, 0)
		w.put(api.Ins{Op: x.Op, A: a})
	case api.Jump, api.Stop:
		w.put(api.Ins{Op: x.Op, A: x.A})
	}
}

// writeCopy does without a spare register, but from slot to slot.
func (w *writer) writeCopy(x api.Ins) {
	from := w.homes[x.A]
	to := w.homes[x.D]
	if to.inSlot {
		a := w.fetch(x.A, 0)
		w.put(api.Ins{Op: api.Store, D: to.at, A: a})
		return
	}
	if from.inSlot {
		w.put(api.Ins{Op: api.Load, D: to.at, A: from.at})
		return
	}
	w.put(api.Ins{Op: api.Copy, D: to.at, A: from.at})
}

// spare tells the n-th of the spare registers.
func (w *writer) spare(n int) int {
	return w.k - spares + n
}

// fetch tells the register of the machine that holds the program's r; if need be, that is the n-th spare one.
func (w *writer) fetch(r, n int) int {
	from := w.homes[r]
	if !from.inSlot {
		return from.at
	}
	to := w.spare(n)
	w.put(api.Ins{Op: api.Load, D: to, A: from.at})
	return to
}

// goal tells the register of the machine to be written where the program writes r. A spare one does though it may
// have been fetched into: an instruction reads ahead of writing.
func (w *writer) goal(r int) int {
	to := w.homes[r]
	if to.inSlot {
		return w.spare(0)
	}
	return to.at
}

// keep brings what was written to the goal of r to its home.
func (w *writer) keep(r int) {
	to := w.homes[r]
	if to.inSlot {
		from := w.spare(0)
		w.put(api.Ins{Op: api.Store, D: to.at, A: from})
	}
}
