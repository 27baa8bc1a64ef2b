package readings

import (
	"cmp"
	"slices"

	"pileup/air"
	"pileup/api"
	"pileup/logs"
)

// maxDays is how many days a contest may go on behind its first one.
const maxDays = 20

// CheckContest returns OK if a contest is valid.
func CheckContest(c api.Contest) api.Errno {
	switch {
	case !air.ValidBands(c.Bands):
		return api.ErrBands
	case !air.ValidTable(c.Table):
		return api.ErrTable
	case !within(c.Day, 0, api.MaxDay-maxDays) || !within(c.Length, 1, api.MaxMinute),
		!within(c.Slip, 0, api.MaxSlip) || !within(c.Drift, 0, api.MaxDrift) || !within(c.Window, 0, api.MaxWindow):
		return api.ErrArg
	}
	for _, cost := range [...]int{c.Near, c.Pardon, c.Lost, c.Stranger} {
		if !within(cost, 0, api.MaxCost) {
			return api.ErrArg
		}
	}
	return api.OK
}

// CheckCase returns what is wrong with a case first.
func CheckCase(c api.Case) (api.Errno, int) {
	if e := CheckContest(c.Contest); e != api.OK {
		return e, 0
	}
	if !fewEnough(c.Logs) {
		return api.ErrLimit, 0
	}
	for i, l := range c.Logs {
		if !logs.ValidLog(c.Contest.Layout, l) || i > 0 && l.Call <= c.Logs[i-1].Call {
			return api.ErrLog, i
		}
	}
	conditions := [...]func(api.Case) bool{validStruck, validDuosOfForce, validDuosOfForbid}
	for i, meets := range conditions {
		if !meets(c) {
			return api.ErrCase, i + 1
		}
	}
	return api.OK, 0
}

// fewEnough reports whether there are not too many logs, and not too many lines in them.
func fewEnough(l []api.Log) bool {
	lines := 0
	for _, x := range l {
		lines += len(x.Lines)
	}
	return len(l) <= api.MaxLogs && lines <= api.MaxNodes
}

// compareRefs orders refs by Log, then Line.
func compareRefs(a, b api.Ref) int {
	return cmp.Or(cmp.Compare(a.Log, b.Log), cmp.Compare(a.Line, b.Line))
}

// compareDuos orders duos by A, then B.
func compareDuos(x, y api.Duo) int { return cmp.Or(compareRefs(x.A, y.A), compareRefs(x.B, y.B)) }

// rises reports whether a list strictly increases.
func rises[T any](l []T, compare func(a, b T) int) bool {
	for i := range l {
		if i > 0 && compare(l[i-1], l[i]) >= 0 {
			return false
		}
	}
	return true
}

// setOf returns the set of the elements of a list.
func setOf[T comparable](l []T) map[T]bool {
	set := map[T]bool{}
	for _, x := range l {
		set[x] = true
	}
	return set
}

// isLine reports whether a ref names a line of a case.
func isLine(c api.Case, r api.Ref) bool {
	return within(r.Log, 0, len(c.Logs)-1) && within(r.Line, 0, len(c.Logs[r.Log].Lines)-1)
}

// validStruck reports whether Struck is as it must be.
func validStruck(c api.Case) bool {
	for _, r := range c.Struck {
		if !isLine(c, r) {
			return false
		}
	}
	return rises(c.Struck, compareRefs)
}

// validDuos reports whether a list is duos, in order, of lines that are there and are not struck.
func validDuos(c api.Case, l []api.Duo) bool {
	struck := setOf(c.Struck)
	for _, x := range l {
		if !isLine(c, x.A) || !isLine(c, x.B) || x.A.Log >= x.B.Log || struck[x.A] || struck[x.B] {
			return false
		}
	}
	return rises(l, compareDuos)
}

// ends returns the lines of duos.
func ends(l []api.Duo) []api.Ref {
	var refs []api.Ref
	for _, x := range l {
		refs = append(refs, x.A, x.B)
	}
	return refs
}

// validDuosOfForce reports whether Force is as it must be.
func validDuosOfForce(c api.Case) bool {
	return validDuos(c, c.Force) && len(setOf(ends(c.Force))) == 2*len(c.Force)
}

// validDuosOfForbid reports whether Forbid is as it must be.
func validDuosOfForbid(c api.Case) bool {
	forced := setOf(c.Force)
	return validDuos(c, c.Forbid) && !slices.ContainsFunc(c.Forbid, func(x api.Duo) bool { return forced[x] })
}
