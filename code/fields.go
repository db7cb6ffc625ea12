// Package code: what programs and units have in common: the fields of an instruction,
// the args and the fuel of a run, and the instructions that both have.
package code

import "lodge/api"

// The kinds of fields.
const (
	none     = 0
	register = 1
	constant = 2
	target   = 3
	number   = 4
	variable = 5
	slot     = 6
)

// kinds has, of each Op, the kinds of D, A and B.
var kinds = [api.Store + 1][3]int{
	api.Const:  {register, constant, none},
	api.Copy:   {register, register, none},
	api.Add:    {register, register, register},
	api.Sub:    {register, register, register},
	api.Mul:    {register, register, register},
	api.Div:    {register, register, register},
	api.Less:   {register, register, register},
	api.Jump:   {none, target, none},
	api.If:     {none, register, target},
	api.Out:    {none, register, none},
	api.Return: {none, register, none},
	api.Stop:   {none, number, none},
	api.Bind:   {variable, register, none},
	api.Tie:    {variable, constant, none},
	api.Free:   {variable, none, none},
	api.Load:   {register, slot, none},
	api.Store:  {slot, register, none},
}

// Limits has how many there are of what a field may name; Code is the number of instructions.
type Limits struct {
	Regs, Slots, Vars, Code int
}

// FieldError tells the error of the first field, of those that x has, that is out of its range.
func FieldError(x api.Ins, l Limits) api.Errno {
	if x.Op < 0 || x.Op >= len(kinds) {
		return api.ErrOp
	}
	fields := [3]int{x.D, x.A, x.B}
	for i := 0; i < len(fields); i++ {
		kind := kinds[x.Op][i]
		if kind == none {
			continue
		}
		count, err := rangeOf(kind, l)
		if fields[i] < 0 || fields[i] >= count {
			return err
		}
	}
	return api.OK
}

// rangeOf tells how many numbers, from 0 on, a field of this kind may be, and the error of any other.
func rangeOf(kind int, l Limits) (int, api.Errno) {
	switch kind {
	case register:
		return l.Regs, api.ErrReg
	case constant:
		return api.MaxValue + 1, api.ErrConst
	case target:
		return l.Code, api.ErrTarget
	case number:
		return api.MaxStop + 1, api.ErrStop
	case variable:
		return l.Vars, api.ErrVar
	}
	return l.Slots, api.ErrSlot
}
