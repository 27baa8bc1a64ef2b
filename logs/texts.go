package logs

import (
	"iter"
	"strconv"
	"strings"

	"pileup/air"
	"pileup/api"
)

// headerWords are the words with which the header lines begin, in their order.
var headerWords = [headerLines]string{"CALL", "CATEGORY", "POWER", "CLAIMED", "JUMPS"}

const endText = "END"

// The stages of the text of a log: the header lines by their indices, contact lines, the end, and what is no line of a log.
const (
	headerLines  = 5
	contactStage = headerLines
	endStage     = contactStage + 1
	noStage      = endStage + 1
)

// An item is what one line of a text says: the stage to which it belongs, and of a contact line the line.
type item struct {
	stage int
	line  api.Line
}

// A place is how far the text of a log has come: the stage of the line that comes next (contactStage: or the end; endStage: none), and the Num and the Minute of the last contact line.
type place struct{ stage, num, minute int }

// after returns the place behind an item, and whether the item follows at this place.
func (p place) after(t item) (place, bool) {
	switch {
	case t.stage < headerLines:
		return place{stage: t.stage + 1}, p.stage == t.stage
	case t.stage == contactStage:
		return place{contactStage, t.line.Num, t.line.Minute}, p.stage == contactStage && isBehind(p.num, p.minute, t.line)
	}
	return place{stage: endStage}, p.stage == contactStage && t.stage == endStage
}

// headerReaders returns the functions that read the words behind the first one of the header lines into a log, in the order of the lines.
func headerReaders() [headerLines]func(l *api.Log, words []string) bool {
	number := func(field func(*api.Log) *int, lo, hi int) func(*api.Log, []string) bool {
		return func(l *api.Log, words []string) bool {
			if len(words) != 1 {
				return false
			}
			n, ok := readNumber(words[0], lo, hi)
			*field(l) = n
			return ok
		}
	}
	return [headerLines]func(*api.Log, []string) bool{
		readCall,
		number(func(l *api.Log) *int { return &l.Category }, 1, maxCategory),
		number(func(l *api.Log) *int { return &l.Power }, 1, maxPower),
		number(func(l *api.Log) *int { return &l.Claimed }, 0, api.MaxCost),
		readJumps,
	}
}

// readCall reads the words behind CALL.
func readCall(l *api.Log, words []string) bool {
	if len(words) != 1 {
		return false
	}
	l.Call = words[0]
	return air.ValidCall(l.Call)
}

// readJumps reads the words behind JUMPS.
func readJumps(l *api.Log, words []string) bool {
	l.Jumps = nil
	for _, w := range words {
		n, ok := readNumber(w, 1, api.MaxMinute)
		if !ok {
			return false
		}
		l.Jumps = append(l.Jumps, n)
	}
	return validJumps(l.Jumps)
}

// readItem returns what a line of a text says; the value of a header line is put into a log.
func readItem(o api.Layout, s string, l *api.Log) item {
	if s == endText {
		return item{stage: endStage}
	}
	if x, e := ParseLine(o, s); e == api.OK {
		return item{stage: contactStage, line: x}
	}
	words := strings.Split(s, " ")
	for stage, read := range headerReaders() {
		if words[0] == headerWords[stage] && read(l, words[1:]) {
			return item{stage: stage}
		}
	}
	return item{stage: noStage}
}

// textLines yields the lines of a text without their line feeds, each with whether it is ended.
func textLines(s string) iter.Seq2[string, bool] {
	return func(yield func(string, bool) bool) {
		for rest := s; rest != ""; {
			line, behind, ended := strings.Cut(rest, "\n")
			if !yield(line, ended) {
				return
			}
			rest = behind
		}
	}
}

// Print returns a log as a text.
func Print(o api.Layout, l api.Log) (string, api.Errno) {
	if e, _ := Check(o, l); e != api.OK {
		return "", e
	}
	var b strings.Builder
	for i, value := range headerValues(l) {
		b.WriteString(headerWords[i] + value + "\n")
	}
	for _, x := range l.Lines {
		text, _ := PrintLine(o, x)
		b.WriteString(text + "\n")
	}
	b.WriteString(endText + "\n")
	return b.String(), api.OK
}

// headerValues returns what stands in the header lines behind their first words, with a blank ahead of each value.
func headerValues(l api.Log) [headerLines]string {
	jumps := ""
	for _, n := range l.Jumps {
		jumps += " " + strconv.Itoa(n)
	}
	return [headerLines]string{
		" " + l.Call,
		" " + strconv.Itoa(l.Category),
		" " + strconv.Itoa(l.Power),
		" " + strconv.Itoa(l.Claimed),
		jumps,
	}
}

// Parse returns the log of a text, or the first line that is wrong.
func Parse(o api.Layout, s string) (api.Log, api.Errno, int) {
	if len(s) > api.MaxText {
		return api.Log{}, api.ErrLimit, 0
	}
	var l api.Log
	var p place
	count := 0
	for text, ended := range textLines(s) {
		count++
		t := readItem(o, text, &l)
		next, follows := p.after(t)
		switch {
		case !ended || !follows:
			return api.Log{}, api.ErrText, count
		case t.stage == contactStage && len(l.Lines) == api.MaxLines:
			return api.Log{}, api.ErrLimit, count
		case t.stage == contactStage:
			l.Lines = append(l.Lines, t.line)
		}
		p = next
	}
	if p.stage != endStage {
		return api.Log{}, api.ErrText, count + 1
	}
	return l, api.OK, 0
}
