package readings

import (
	"slices"

	"pileup/api"
)

// The prices of the nodes of a part are told by a hall in which each node is a guest and also a seat. A guest sits on its own seat at twice the cost of being alone, or on that of a node with which it may have a pair at the cost of the pair. If all guests sit and pay the least that they can together, no reading costs less than half of it; and what one more guest or one more seat is worth there gives the prices of the nodes, times two.

// A stay is a seat on which a guest may sit, the pair that it has then (none: it is alone), and what it pays.
type stay struct{ seat, pair, cost int }

// A hall is guests and seats: what each guest may choose, what it has chosen, and who sits on each seat (none: nobody).
type hall struct {
	choices [][]stay
	chosen  []stay
	guests  []int
}

// A wave spreads over a hall: the least sums for which each seat is reached, by which guest, and by which of its choices; and the seats from which it has to spread further.
type wave struct {
	hall  *hall
	sums  []int
	by    []int
	with  []stay
	queue []int
}

// newHall returns a hall with its guests seated, each of whom has a way to sit alone.
func newHall(choices [][]stay) *hall {
	n := len(choices)
	h := &hall{choices, make([]stay, n), slices.Repeat([]int{none}, n)}
	for guest := range n {
		h.admit(guest)
	}
	return h
}

// newWave returns a wave that has reached all seats for a sum, and spreads from none.
func (h *hall) newWave(sum int) *wave {
	n := len(h.choices)
	return &wave{h, slices.Repeat([]int{sum}, n), make([]int, n), make([]stay, n), nil}
}

// reach goes from a guest to all seats that it may choose.
func (w *wave) reach(guest, sum int) {
	for _, s := range w.hall.choices[guest] {
		if sum+s.cost < w.sums[s.seat] {
			w.sums[s.seat], w.by[s.seat], w.with[s.seat] = sum+s.cost, guest, s
			w.queue = append(w.queue, s.seat)
		}
	}
}

// spread goes on from each seat with the guest who has to leave it, and who gets back what it paid.
func (w *wave) spread() {
	for len(w.queue) > 0 {
		seat := w.queue[0]
		w.queue = w.queue[1:]
		if guest := w.hall.guests[seat]; guest != none {
			w.reach(guest, w.sums[seat]-w.hall.chosen[guest].cost)
		}
	}
}

// admit seats one more guest, for whom others move as far as it costs least.
func (h *hall) admit(guest int) {
	w := h.newWave(api.NoBound)
	w.reach(guest, 0)
	w.spread()
	seat := none
	for i, sum := range w.sums {
		if h.guests[i] == none && (seat == none || sum < w.sums[seat]) {
			seat = i
		}
	}
	for {
		mover := w.by[seat]
		left := h.chosen[mover].seat
		h.chosen[mover], h.guests[seat] = w.with[seat], mover
		if mover == guest {
			return
		}
		seat = left
	}
}

// joins reports whether two guests sit on the seats of one another.
func (h *hall) joins(a, b int) bool { return h.chosen[a].seat == b && h.chosen[b].seat == a }

// paid returns what all guests pay.
func (h *hall) paid() int {
	sum := 0
	for _, s := range h.chosen {
		sum += s.cost
	}
	return sum
}

// doubles returns twice the prices of the nodes.
func (h *hall) doubles() []int {
	w := h.newWave(0)
	for seat := range h.guests {
		w.queue = append(w.queue, seat)
	}
	w.spread()
	var doubles []int
	for node, s := range h.chosen {
		asGuest, asSeat := s.cost-w.sums[s.seat], w.sums[node]
		doubles = append(doubles, asGuest+asSeat)
	}
	return doubles
}

// oddRing returns a pair of an odd number of guests, more than one, of whom each sits on the seat of the next one; none, if there are no such guests. (An even number can be joined in pairs for as much.)
func (h *hall) oddRing() int {
	seen := make([]bool, len(h.chosen))
	for guest := range h.chosen {
		size := 0
		for at := guest; !seen[at]; at = h.chosen[at].seat {
			seen[at] = true
			size++
		}
		if size > 1 && size%2 == 1 {
			return h.chosen[guest].pair
		}
	}
	return none
}

// isOdd reports whether a number is odd.
func isOdd(n int) bool { return n%2 != 0 }

// sides puts the nodes whose doubles are odd on two sides, 1 and -1: no two nodes of one side, as far as that can be, have a pair that costs just what both pay. The prices of one side can be rounded up and those of the other one down. It also returns a pair of two nodes of one side (none: there is no such pair).
func (h *hall) sides(doubles []int) (sides []int, clash int) {
	sides, clash = make([]int, len(doubles)), none
	for start, double := range doubles {
		if !isOdd(double) || sides[start] != 0 {
			continue
		}
		sides[start] = 1
		for queue := []int{start}; len(queue) > 0; queue = queue[1:] {
			v := queue[0]
			for _, s := range h.choices[v] {
				if s.pair == none || !isOdd(doubles[s.seat]) || doubles[v]+doubles[s.seat] != 2*s.cost {
					continue
				}
				switch sides[s.seat] {
				case 0:
					sides[s.seat] = -sides[v]
					queue = append(queue, s.seat)
				case sides[v]:
					clash = s.pair
				}
			}
		}
	}
	return sides, clash
}

// raise makes the price of a node as great as the other prices let it be.
func (h *hall) raise(prices []int, v int) {
	most := api.MaxCost
	for _, s := range h.choices[v] {
		if s.pair == none {
			most = min(most, s.cost/2)
		} else {
			most = min(most, s.cost-prices[s.seat])
		}
	}
	prices[v] = most
}

// prices returns prices of the nodes, in whole numbers, of which none can be greater without that another one is less; and a pair because of which readings may cost more than they add up to (none: there is no such pair).
func (h *hall) prices() ([]int, int) {
	doubles := h.doubles()
	sides, clash := h.sides(doubles)
	var prices []int
	for _, double := range doubles {
		// Shifting rounds down, negative numbers too.
		prices = append(prices, double>>1)
	}
	for v, side := range sides {
		if side == 1 {
			h.raise(prices, v)
		}
	}
	sum := 0
	for v := range prices {
		h.raise(prices, v)
		sum += prices[v]
	}
	if ring := h.oddRing(); ring != none {
		return prices, ring
	}
	if 2*sum < h.paid() {
		return prices, clash
	}
	return prices, none
}
