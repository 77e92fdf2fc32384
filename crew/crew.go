// Package crew is what plays of workers have in common: how much there is to do, and who goes on at each time.
package crew

import "warp/pick"

// Count tells how many entries there are in all lists.
func Count[T any](lists [][]T) int {
	count := 0
	for _, l := range lists {
		count += len(l)
	}
	return count
}

// Turns tells who goes on, one time behind the other, as Next (2) does from Start of picks on.
type Turns struct {
	picks []int // those that have not been used
	last  int
}

// By tells turns by those picks.
func By(picks []int) *Turns {
	p := pick.Start(picks)
	return &Turns{picks: p.L, last: p.Last}
}

// Next tells which of the enabled ones goes on: -1, if none is enabled.
func (t *Turns) Next(enabled []bool) int {
	// pick.Next copies all picks it is given: with more than one in hand each step would cost that of all of them.
	p := pick.Start(t.picks[:min(1, len(t.picks))])
	p.Last = t.last
	w, p := pick.Next(p, enabled)
	t.picks, t.last = t.picks[p.At:], p.Last
	return w
}
