package rules

import (
	"strconv"
	"strings"

	"pileup/api"
)

// A sign tells how a kind of nodes is written: its operator, its rank, and the ranks that are asked for in the places of its kids.
type sign struct {
	text string
	rank int
	asks [3]int
}

// signs are the signs of nodes by their kinds.
var signs = [choice + 1]sign{
	number: {rank: 7},
	field:  {rank: 7},
	not:    {text: "not", rank: 3, asks: [3]int{3}},
	and:    {text: "and", rank: 2, asks: [3]int{2, 3}},
	or:     {text: "or", rank: 1, asks: [3]int{1, 2}},
	equal:  {text: "=", rank: 4, asks: [3]int{5, 5}},
	less:   {text: "<", rank: 4, asks: [3]int{5, 5}},
	add:    {text: "+", rank: 5, asks: [3]int{5, 6}},
	sub:    {text: "-", rank: 5, asks: [3]int{5, 6}},
	mul:    {text: "*", rank: 6, asks: [3]int{6, 7}},
	choice: {text: "if", rank: 7, asks: [3]int{1, 1, 1}},
}

// names are the names of the fields.
var names = [api.MaxFields]string{
	"band", "mode", "hour", "mycountry", "myzone", "mycontinent", "country", "zone", "continent", "call", "gotzone", "category", "power", "status",
}

// The words that parts begin with.
const (
	points     = "points"
	multiplier = "multiplier"
	penalty    = "penalty"
	repeat     = "repeat"
)

// The other texts of tokens that are no operators.
const (
	end      = "" // no other token is empty
	lineFeed = "\n"
	colon    = ":"
	arrow    = "=>"
	comma    = ","
	opening  = "("
	closing  = ")"
)

// textOf returns a sound expression as a text.
func textOf(e api.Expr) string {
	s := signs[e.Op]
	var kids []string
	for i, kid := range e.Kids {
		kids = append(kids, kidText(kid, s.asks[i]))
	}
	switch e.Op {
	case number:
		return strconv.Itoa(e.Value)
	case field:
		return names[e.Value]
	case not:
		return s.text + " " + kids[0]
	case choice:
		return s.text + opening + strings.Join(kids, comma+" ") + closing
	default:
		return strings.Join(kids, " "+s.text+" ")
	}
}

// kidText returns a kid as a text, in parentheses if its rank is less than is asked for in its place.
func kidText(kid api.Expr, asked int) string {
	if signs[kid.Op].rank < asked {
		return opening + textOf(kid) + closing
	}
	return textOf(kid)
}

// Print returns a book as a text.
func Print(b api.Book) (string, api.Errno) {
	if errno := checkBook(b); errno != api.OK {
		return "", errno
	}
	var w strings.Builder
	writeClauses(&w, points, b.Points)
	writeClauses(&w, multiplier, b.Multipliers)
	writeClauses(&w, penalty, b.Penalties)
	for _, e := range b.Repeats {
		w.WriteString(repeat + colon + " " + textOf(e) + lineFeed)
	}
	return w.String(), api.OK
}

// writeClauses writes clauses as parts that begin with a word.
func writeClauses(w *strings.Builder, word string, l []api.Clause) {
	for _, c := range l {
		w.WriteString(word + colon + " " + textOf(c.When) + " " + arrow + " " + textOf(c.Then) + lineFeed)
	}
}

// PrintExpr returns an expression as a text.
func PrintExpr(e api.Expr) (string, api.Errno) {
	if errno := checkExpr(e); errno != api.OK {
		return "", errno
	}
	return textOf(e), api.OK
}
