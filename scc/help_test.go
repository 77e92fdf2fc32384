package scc

import (
	"slices"
	"testing"

	"warp/graphs"
)

// checkOf checks that Of tells these groups of g, again when the answer is spoilt, and that g stays what it is.
func checkOf(t *testing.T, g, want [][]int) {
	t.Helper()
	was := graphs.Copy(g)
	for range 2 {
		got := Of(g)
		if !graphs.Same(got, want) {
			t.Errorf("of %s: %s, want %s", graphs.Cut(g), graphs.Cut(got), graphs.Cut(want))
		}
		graphs.Scribble(got, -7)
		checkStays(t, g, was)
	}
}

// checkStays checks that g is what it was.
func checkStays(t *testing.T, g, was [][]int) {
	t.Helper()
	if !graphs.Same(g, was) {
		t.Errorf("%s: it was %s", graphs.Cut(g), graphs.Cut(was))
	}
}

// checkReach checks that Reach tells that of a and b in g, twice, and that g stays what it is.
func checkReach(t *testing.T, g [][]int, a, b int, want bool) {
	t.Helper()
	was := graphs.Copy(g)
	for range 2 {
		if got := Reach(g, a, b); got != want {
			t.Errorf("of %s, from %d to %d: %v", graphs.Cut(g), a, b, got)
		}
		checkStays(t, g, was)
	}
}

// checkNoNodes checks that nothing leads from what is no node, or to it.
func checkNoNodes(t *testing.T, g [][]int) {
	t.Helper()
	none := graphs.NoNodes(len(g))
	for _, no := range none {
		checkReach(t, g, no, no, false)
		checkReach(t, g, no, none[0], false)
		for x := range min(len(g), 5) {
			checkReach(t, g, x, no, false)
			checkReach(t, g, no, x, false)
		}
	}
}

// renamed tells groups whose nodes have other names: each rising, by their least nodes.
func renamed(groups [][]int, p []int) [][]int {
	l := graphs.Copy(groups)
	for _, group := range l {
		for i, x := range group {
			group[i] = p[x]
		}
		slices.Sort(group)
	}
	slices.SortFunc(l, func(a, b []int) int { return a[0] - b[0] })
	return l
}

// checkGroups checks that Of tells these groups of g, however it is said; and of all edges turned round, too. By other
// names they are the same groups.
func checkGroups(t *testing.T, g, want [][]int) {
	t.Helper()
	if got := plainOf(g); !graphs.Same(got, want) {
		t.Errorf("the test itself is wrong: of %s: %s, want %s", graphs.Told(g), graphs.Told(got), graphs.Told(want))
	}
	checkOf(t, g, want)
	for _, p := range graphs.Renamings(len(g)) {
		named, groups := graphs.Renamed(g, p), renamed(want, p)
		checkOf(t, named, groups)
		checkOf(t, graphs.Turned(named), groups)
		for _, said := range graphs.Said(named) {
			checkOf(t, said, groups)
		}
	}
}

// checkTexts checks which groups Of tells of each graph: those that stand beside it.
func checkTexts(t *testing.T, rows [][2]string) {
	t.Helper()
	for _, row := range rows {
		checkGroups(t, graphs.Of(row[0]), graphs.Of(row[1]))
	}
}

// checkWays checks which nodes one comes to from each node of g, however g is said, and that none comes from what is no
// node, or to it: want[x] are those of x.
func checkWays(t *testing.T, g, want [][]int) {
	t.Helper()
	for _, said := range append(graphs.Said(g), g) {
		for a := range g {
			for b := range g {
				checkReach(t, said, a, b, slices.Contains(want[a], b))
			}
		}
	}
	checkNoNodes(t, g)
}

// checkWayTexts checks which nodes one comes to from each node of each graph: those that stand beside it.
func checkWayTexts(t *testing.T, rows [][2]string) {
	t.Helper()
	for _, row := range rows {
		g, want := graphs.Of(row[0]), graphs.Of(row[1])
		if got := ways(g); !graphs.Same(got, want) {
			t.Errorf("%q: the test itself is wrong: %s, want %s", row[0], graphs.Cut(got), graphs.Cut(want))
		}
		checkWays(t, g, want)
	}
}
