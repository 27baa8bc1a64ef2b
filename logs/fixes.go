package logs

import (
	"maps"
	"slices"

	"pileup/api"
)

// A draft is the lines of a log by their Nums, while corrections are applied to it, and the corrections that lead back, in the order in which they were found.
type draft struct {
	layout api.Layout
	lines  map[int]api.Line
	back   []api.Fix
}

// newDraft returns the draft of a log that is valid.
func newDraft(o api.Layout, l api.Log) *draft {
	d := &draft{layout: o, lines: map[int]api.Line{}}
	for _, x := range l.Lines {
		d.lines[x.Num] = x
	}
	return d
}

// drop applies a FixDrop, and reports whether it can be applied.
func (d *draft) drop(f api.Fix) bool {
	old, has := d.lines[f.Num]
	if !has || f.Line != (api.Line{}) {
		return false
	}
	delete(d.lines, f.Num)
	d.back = append(d.back, api.Fix{Kind: api.FixInsert, Num: f.Num, Line: old})
	return true
}

// insert applies a FixInsert, and reports whether it can be applied.
func (d *draft) insert(f api.Fix) bool {
	if _, has := d.lines[f.Num]; has || !d.carries(f) {
		return false
	}
	d.lines[f.Num] = f.Line
	d.back = append(d.back, api.Fix{Kind: api.FixDrop, Num: f.Num})
	return true
}

// change applies a FixChange, and reports whether it can be applied.
func (d *draft) change(f api.Fix) bool {
	old, has := d.lines[f.Num]
	if !has || !d.carries(f) {
		return false
	}
	d.lines[f.Num] = f.Line
	d.back = append(d.back, api.Fix{Kind: api.FixChange, Num: f.Num, Line: old})
	return true
}

// carries reports whether a correction has a valid line with its own number.
func (d *draft) carries(f api.Fix) bool { return f.Line.Num == f.Num && ValidLine(d.layout, f.Line) }

// applyAll applies corrections, and returns how many can be applied before one that cannot.
func (d *draft) applyAll(fixes []api.Fix) int {
	ways := map[int]func(api.Fix) bool{api.FixDrop: d.drop, api.FixInsert: d.insert, api.FixChange: d.change}
	for i, f := range fixes {
		way, ok := ways[f.Kind]
		if !ok || !way(f) {
			return i
		}
	}
	return len(fixes)
}

// sorted returns the lines in the order of their Nums.
func (d *draft) sorted() []api.Line {
	var l []api.Line
	for _, num := range slices.Sorted(maps.Keys(d.lines)) {
		l = append(l, d.lines[num])
	}
	return l
}

// correct returns a log after corrections, and the corrections that lead back; or the error and the number of Apply.
func correct(o api.Layout, l api.Log, fixes []api.Fix) (api.Log, []api.Fix, api.Errno, int) {
	if e, _ := Check(o, l); e != api.OK {
		return api.Log{}, nil, e, 0
	}
	d := newDraft(o, l)
	if n := d.applyAll(fixes); n < len(fixes) {
		return api.Log{}, nil, api.ErrFix, n
	}
	l.Jumps = slices.Clone(l.Jumps)
	l.Lines = d.sorted()
	if !ValidLog(o, l) {
		return api.Log{}, nil, api.ErrFix, len(fixes)
	}
	slices.Reverse(d.back)
	return l, d.back, api.OK, 0
}

// Apply applies corrections to a log.
func Apply(o api.Layout, l api.Log, fixes []api.Fix) (api.Log, api.Errno, int) {
	after, _, e, n := correct(o, l, fixes)
	return after, e, n
}

// Invert returns the corrections that undo corrections of a log.
func Invert(o api.Layout, l api.Log, fixes []api.Fix) ([]api.Fix, api.Errno) {
	_, back, e, _ := correct(o, l, fixes)
	return back, e
}

// Diff returns the corrections that lead from one log to another one.
func Diff(o api.Layout, a, b api.Log) ([]api.Fix, api.Errno) {
	for _, l := range [...]api.Log{a, b} {
		if e, _ := Check(o, l); e != api.OK {
			return nil, e
		}
	}
	if !sameHeader(a, b) {
		return nil, api.ErrArg
	}
	var fixes []api.Fix
	x, y := a.Lines, b.Lines
	for len(x) > 0 || len(y) > 0 {
		switch {
		case len(y) == 0 || len(x) > 0 && x[0].Num < y[0].Num:
			fixes = append(fixes, api.Fix{Kind: api.FixDrop, Num: x[0].Num})
			x = x[1:]
		case len(x) == 0 || y[0].Num < x[0].Num:
			fixes = append(fixes, api.Fix{Kind: api.FixInsert, Num: y[0].Num, Line: y[0]})
			y = y[1:]
		default:
			if x[0] != y[0] {
				fixes = append(fixes, api.Fix{Kind: api.FixChange, Num: y[0].Num, Line: y[0]})
			}
			x, y = x[1:], y[1:]
		}
	}
	return fixes, api.OK
}
