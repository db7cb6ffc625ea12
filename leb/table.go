package leb

import "lodge/api"

// rangeNumbers is how many numbers are written of a range.
const rangeNumbers = 5

// Encode writes a table (P4).
func Encode(l []api.Range) (string, api.Errno) {
	if !isTable(l) {
		return "", api.ErrTable
	}
	s := numberBytes(len(l))
	for i := 0; i < len(l); i++ {
		s += rangeBytes(l[i])
	}
	return s, api.OK
}

// Decode reads a table (P4).
func Decode(s string) ([]api.Range, api.Errno) {
	count, at, err := Get(s, 0)
	// Told ahead of the ranges, so that no long string is read for nothing.
	if err != api.OK || count > api.MaxRanges {
		return nil, api.ErrBytes
	}
	var l []api.Range
	for i := 0; i < count; i++ {
		r, next, fault := getRange(s, at)
		if fault != api.OK {
			return nil, api.ErrBytes
		}
		l = append(l, r)
		at = next
	}
	// Get takes only what Put writes, so a table that fills s to its end is one that is written as s.
	if at != len(s) || !isTable(l) {
		return nil, api.ErrBytes
	}
	return l, api.OK
}

// rangeBytes writes a range that is known to be right.
func rangeBytes(r api.Range) string {
	numbers := [rangeNumbers]int{r.Var, r.From, r.To - r.From, r.Kind, r.At}
	s := ""
	for i := 0; i < rangeNumbers; i++ {
		s += numberBytes(numbers[i])
	}
	return s
}

// getRange reads the numbers of a range and tells the place behind them; whether the range is right is not looked at.
func getRange(s string, at int) (api.Range, int, api.Errno) {
	var numbers [rangeNumbers]int
	for i := 0; i < rangeNumbers; i++ {
		n, next, err := Get(s, at)
		if err != api.OK {
			return api.Range{}, 0, err
		}
		numbers[i] = n
		at = next
	}
	r := api.Range{Var: numbers[0], From: numbers[1], To: numbers[1] + numbers[2], Kind: numbers[3], At: numbers[4]}
	return r, at, api.OK
}

func isTable(l []api.Range) bool {
	if len(l) > api.MaxRanges {
		return false
	}
	for i := 0; i < len(l); i++ {
		if !isRange(l[i]) {
			return false
		}
		if i > 0 && !mayFollow(l[i-1], l[i]) {
			return false
		}
	}
	return true
}

func isRange(r api.Range) bool {
	if r.Var < 0 || r.Var >= api.MaxVars {
		return false
	}
	if r.From < 0 || r.From >= r.To || r.To > api.MaxUnit {
		return false
	}
	if r.Kind < api.InReg || r.Kind > api.IsConst {
		return false
	}
	return r.At >= 0 && r.At <= api.MaxValue
}

// mayFollow looks at neighbours alone: as each range is not empty, neighbours of one Var
// that do not overlap keep all ranges of that Var apart.
func mayFollow(a, b api.Range) bool {
	if a.Var != b.Var {
		return a.Var < b.Var
	}
	if a.To != b.From {
		return a.To < b.From
	}
	return a.Kind != b.Kind || a.At != b.At
}
