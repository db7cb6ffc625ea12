// Package code: what programs and units have in common: the fields of an instruction,
// the args and the fuel of a run, and the instructions that both have.
package code

import "lodge/api"

// The kinds of fields.
const (
	none     = 0
	register = 1
	constant = 2
	target   = 3
	number   = 4
	variable = 5
	slot     = 6
)

// kinds has, of each Op, the kinds of D, A and B.
var kinds = [api.Store + 1][3]int{
	api.Const:  {register, constant, none},
	api.Copy:   {register, register, none},
	api.Add:    {register, register, register},
	api.Sub:    {register, register, register},
	api.Mul:    {register, register, register},
	api.Div:    {register, register, register},
	api.Less:   {register, register, register},
	api.Jump:   {none, target, none},
	api.If:     {none, register, target},
	api.Out:    {none, register, none},
	api.Return: {none, register, none},
	api.Stop:   {none, number, none},
	api.Bind:   {variable, register, none},
	api.Tie:    {variable, constant, none},
	api.Free:   {variable, none, none},
	api.Load:   {register, slot, none},
	api.Store:  {slot, register, none},
}

// Limits has how many there are of what a field may name, beside the instructions themselves.
// Unit tells that the code is a unit's, not a program's.
type Limits struct {
	Unit              bool
	Regs, Slots, Vars int
}

// Check tells the first error of a list of instructions and its place.
func Check(list []api.Ins, l Limits) (api.Errno, int) {
	if len(list) == 0 {
		return api.ErrSize, 0
	}
	for i := 0; i < len(list); i++ {
		err := insError(list[i], l, len(list))
		if err != api.OK {
			return err, i
		}
	}
	last := len(list) - 1
	if list[last].Op != api.Jump && list[last].Op != api.Return {
		return api.ErrEnd, last
	}
	return api.OK, 0
}

func insError(x api.Ins, l Limits, targets int) api.Errno {
	if !isOp(x.Op, l.Unit) {
		return api.ErrOp
	}
	fields := [3]int{x.D, x.A, x.B}
	for i := 0; i < len(fields); i++ {
		kind := kinds[x.Op][i]
		if kind == none {
			continue
		}
		count, err := rangeOf(kind, l, targets)
		if fields[i] < 0 || fields[i] >= count {
			return err
		}
	}
	return api.OK
}

func isOp(op int, unit bool) bool {
	if op >= api.Const && op <= api.Stop {
		return true
	}
	if unit {
		return op == api.Load || op == api.Store
	}
	return op == api.Bind || op == api.Tie || op == api.Free
}

// rangeOf tells how many numbers, from 0 on, a field of this kind may be, and the error of any other.
func rangeOf(kind int, l Limits, targets int) (int, api.Errno) {
	switch kind {
	case register:
		return l.Regs, api.ErrReg
	case constant:
		return api.MaxValue + 1, api.ErrConst
	case target:
		return targets, api.ErrTarget
	case number:
		return api.MaxStop + 1, api.ErrStop
	case variable:
		return l.Vars, api.ErrVar
	}
	return l.Slots, api.ErrSlot
}
