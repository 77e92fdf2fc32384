package scc

import (
	"fmt"
	"slices"
	"testing"

	"warp/graphs"
	"warp/lists"
	"warp/plays"
)

// Drawn graphs, and all small ones, held against what the chapter says.

func TestSmallGraphs(t *testing.T) {
	count := 0
	for n := range 4 {
		graphs.Each(n, func(g [][]int) {
			checkPlain(t, g)
			count++
		})
	}
	if count != 1+2+16+512 {
		t.Errorf("%d graphs", count)
	}
}

// TestSmallRows hands in all rows of up to two numbers, nodes and others, each at each of two nodes.
func TestSmallRows(t *testing.T) {
	var rows [][]int
	for n := range 3 {
		lists.Each(n, []int{-1, 0, 1, 2}, func(l []int) { rows = append(rows, l) })
	}
	for _, first := range rows {
		for _, second := range rows {
			checkPlain(t, [][]int{first, second})
		}
	}
}

func TestGraphsOfFour(t *testing.T) {
	count := 0
	graphs.Each(4, func(g [][]int) {
		for x, row := range g {
			if slices.Contains(row, x) {
				return
			}
		}
		checkOf(t, g, plainOf(g))
		count++
	})
	if count != 1<<12 {
		t.Errorf("%d graphs", count)
	}
}

// apart tells whether between the nodes of a group there are such of another one.
func apart(group []int) bool { return group[len(group)-1]-group[0] >= len(group) }

// see counts what g has in it.
func see(seen map[string]int, g [][]int) {
	groups := plainOf(g)
	seen[fmt.Sprint("groups: ", min(len(groups), 6))]++
	for _, group := range groups {
		seen[fmt.Sprint("nodes: ", min(len(group), 6))]++
		if apart(group) {
			seen["apart"]++
		}
		if len(group) == 1 && slices.Contains(g[group[0]], group[0]) {
			seen["one that leads to itself"]++
		}
	}
	for _, row := range g {
		l := slices.Sorted(slices.Values(row))
		if len(slices.Compact(l)) < len(row) {
			seen["an edge twice"]++
		}
		if slices.ContainsFunc(row, func(y int) bool { return y < 0 || y >= len(g) }) {
			seen["no node"]++
		}
	}
}

func TestDrawnGraphs(t *testing.T) {
	next, seen := plays.Below(151), map[string]int{}
	for i := range 6000 {
		g := graphs.Spoilt(next, graphs.Drawn(next, 1+next(12), 2+next(3)), i%4)
		checkPlain(t, g)
		see(seen, g)
	}
	want := []string{"apart", "one that leads to itself", "an edge twice", "no node"}
	for n := 1; n <= 6; n++ {
		want = append(want, fmt.Sprint("groups: ", n), fmt.Sprint("nodes: ", n))
	}
	for _, what := range want {
		if seen[what] < 100 {
			t.Errorf("%s: %d times", what, seen[what])
		}
	}
}

// TestGraphsOfMany draws graphs of some 100 nodes, where each leads to so many that some groups are great.
func TestGraphsOfMany(t *testing.T) {
	next := plays.Below(152)
	great, many := 0, 0
	for i := range 60 {
		g := graphs.Spoilt(next, graphs.Drawn(next, 60+next(60), 2+i%4), i)
		want := plainOf(g)
		checkOf(t, g, want)
		checkOf(t, graphs.Turned(g), want)
		to := ways(g)
		for range 300 {
			a, b := next(len(g)), next(len(g))
			checkReach(t, g, a, b, slices.Contains(to[a], b))
		}
		if len(want) > 20 {
			many++
		}
		for _, group := range want {
			if len(group) > 20 {
				great++
			}
		}
	}
	if great < 20 || many < 20 {
		t.Errorf("%d great groups, %d times many", great, many)
	}
}

// TestRingsDrawn joins rings in ways that are known to make no groups, and one, and names all by drawn names.
func TestRingsDrawn(t *testing.T) {
	next := plays.Below(153)
	for range 300 {
		var g, want [][]int
		for range 1 + next(8) {
			n := 1 + next(20)
			want = append(want, lists.Span(len(g), len(g)+n-1))
			g = graphs.Behind(g, graphs.Ring(n))
		}
		for range next(30) {
			x, y := next(len(g)), next(len(g))
			g[min(x, y)] = append(g[min(x, y)], max(x, y))
		}
		p := lists.Span(0, len(g)-1)
		lists.Shuffle(next, p)
		checkOf(t, graphs.Renamed(g, p), renamed(want, p))
		checkOf(t, graphs.Turned(graphs.Renamed(g, p)), renamed(want, p))
		for i, group := range want { // each leads to the next, and the last to the first
			x, behind := group[next(len(group))], want[(i+1)%len(want)]
			g[x] = append(g[x], behind[next(len(behind))])
		}
		checkOf(t, graphs.Renamed(g, p), [][]int{lists.Span(0, len(g)-1)})
	}
}
