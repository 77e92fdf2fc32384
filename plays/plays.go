// Package plays makes operations, scripts and picks that the tests of the other packages hand in.
package plays

import (
	"warp/api"
	"warp/draw"
)

// Ops tells all operations on n elements.
func Ops(n int) []api.Op {
	var l []api.Op
	for x := range n {
		l = append(l, api.Op{Kind: api.OFind, X: x})
		for y := range n {
			l = append(l, api.Op{Kind: api.OSame, X: x, Y: y}, api.Op{Kind: api.OUnite, X: x, Y: y})
		}
	}
	return l
}

const turns = 7 // picks of two workers: one more would double the time, and show the same changes of cells

// OfTwo calls f with two workers that have one operation each, each two on three elements, in all turns.
func OfTwo(f func(prio []int, scripts [][]api.Op, picks []int)) {
	for _, a := range Ops(3) {
		for _, b := range Ops(3) {
			for x := range 1 << turns {
				f([]int{1, 3, 2}, [][]api.Op{{a}, {b}}, bitsOf(x, turns))
			}
		}
	}
}

// bitsOf tells the lowest n bits of x.
func bitsOf(x, n int) []int {
	l := make([]int, n)
	for i := range l {
		l[i] = x >> i & 1
	}
	return l
}

// Below tells a function that tells numbers from 0 to below n, other ones for each seed.
func Below(seed int) func(n int) int {
	d := api.Draws{At: seed << 16}
	return func(n int) int {
		var x int
		x, d = draw.Next(d)
		return x % n
	}
}

// Drawn tells what is drawn by the seed; some operations may not begin.
func Drawn(seed int) (prio []int, scripts [][]api.Op, picks []int) {
	next := Below(seed)
	n := 1 + next(9)
	for range n {
		prio = append(prio, next(5)-2)
	}
	for range next(8) {
		var s []api.Op
		for range next(7) {
			s = append(s, api.Op{Kind: next(20) % 5, X: next(n+1) - next(2), Y: next(n + 1)})
		}
		scripts = append(scripts, s)
	}
	for range next(250) {
		picks = append(picks, next(100)-50)
	}
	return prio, scripts, picks
}
