package scc

import (
	"slices"
	"testing"

	"warp/graphs"
)

// ways tells of each node of g those to which one comes from it, word by word as the chapter says it: at first it is
// the node itself; where one is, one goes on to all that it leads to, till none is new.
func ways(g [][]int) [][]int {
	var all [][]int
	for a := range g {
		to := make([]bool, len(g))
		to[a] = true
		for grows := true; grows; {
			grows = false
			for x, row := range g {
				for _, y := range row {
					if to[x] && y >= 0 && y < len(g) && !to[y] {
						to[y], grows = true, true
					}
				}
			}
		}
		var l []int
		for b := range to {
			if to[b] {
				l = append(l, b)
			}
		}
		all = append(all, l)
	}
	return all
}

// plainOf tells that of Of: it asks of each two nodes whether they reach one another.
func plainOf(g [][]int) [][]int {
	to := ways(g)
	var l [][]int
	for x := range g {
		var group []int
		for y := range g {
			if slices.Contains(to[x], y) && slices.Contains(to[y], x) {
				group = append(group, y)
			}
		}
		if group[0] == x {
			l = append(l, group)
		}
	}
	return l
}

// checkPlain checks that Of and Reach tell what the chapter says of g.
func checkPlain(t *testing.T, g [][]int) {
	t.Helper()
	checkOf(t, g, plainOf(g))
	for a, to := range ways(g) {
		for b := range g {
			checkReach(t, g, a, b, slices.Contains(to, b))
		}
		none := graphs.NoNodes(len(g))
		no := none[a%len(none)]
		checkReach(t, g, a, no, false)
		checkReach(t, g, no, a, false)
	}
}
