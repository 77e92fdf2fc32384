package wave

import (
	"slices"
	"testing"

	"warp/graphs"
	"warp/lists"
	"warp/scc"
)

// some tells the numbers of l for a message, cut where they are many.
func some(l []int) []int { return l[:min(len(l), 200)] }

// checkStays checks that g is what it was.
func checkStays(t *testing.T, g, was [][]int) {
	t.Helper()
	if !graphs.Same(g, was) {
		t.Errorf("%s: it was %s", graphs.Cut(g), graphs.Cut(was))
	}
}

// checkLevels checks that Levels tells that of g, again when the answer is spoilt, and that g stays what it is.
func checkLevels(t *testing.T, g [][]int, want []int) {
	t.Helper()
	was := graphs.Copy(g)
	for range 2 {
		got := Levels(g)
		if !slices.Equal(got, want) {
			t.Errorf("of %s: levels %v, want %v", graphs.Cut(g), some(got), some(want))
		}
		lists.Scribble(got, -7)
		checkStays(t, g, was)
	}
}

// checkWaves checks that Waves tells that of g, again when the answer is spoilt, and that g stays what it is.
func checkWaves(t *testing.T, g, want [][]int) {
	t.Helper()
	was := graphs.Copy(g)
	for range 2 {
		got := Waves(g)
		if !graphs.Same(got, want) {
			t.Errorf("of %s: waves %s, want %s", graphs.Cut(g), graphs.Cut(got), graphs.Cut(want))
		}
		graphs.Scribble(got, -7)
		checkStays(t, g, was)
	}
}

// check checks that Levels tells these levels of g, and Waves the places of each.
func check(t *testing.T, g [][]int, levels []int) {
	t.Helper()
	checkLevels(t, g, levels)
	checkWaves(t, g, plainWaves(levels))
}

// ofNodes tells of each node of g the level of its group, which levels has.
func ofNodes(g [][]int, levels []int) []int {
	l := make([]int, len(g))
	for i, group := range scc.Of(g) {
		for _, x := range group {
			l[x] = levels[i]
		}
	}
	return l
}

// ofGroups tells of each group of g the level that its nodes have in l.
func ofGroups(g [][]int, l []int) []int {
	var levels []int
	for _, group := range scc.Of(g) {
		levels = append(levels, l[group[0]])
	}
	return levels
}

// renamed tells the levels of g, which levels has, when its nodes have other names: the groups may stand in another
// order then.
func renamed(g [][]int, levels, p []int) []int {
	l := make([]int, len(g))
	for x, level := range ofNodes(g, levels) {
		l[p[x]] = level
	}
	return ofGroups(graphs.Renamed(g, p), l)
}

// checkNamed checks that Levels and Waves tell that of g, whatever its nodes are named, and however it is said.
func checkNamed(t *testing.T, g [][]int, levels []int) {
	t.Helper()
	if got := plainLevels(g); !slices.Equal(got, levels) {
		t.Errorf("the test itself is wrong: of %s: %v, want %v", graphs.Told(g), got, levels)
		return
	}
	check(t, g, levels)
	for _, p := range graphs.Renamings(len(g)) {
		named, want := graphs.Renamed(g, p), renamed(g, levels, p)
		check(t, named, want)
		for _, said := range graphs.Said(named) {
			check(t, said, want)
		}
	}
}

// row tells the numbers that a text says: none, if it is empty.
func row(s string) []int { return slices.Concat(graphs.Of(s)...) }

// checkTexts checks what Levels and Waves tell of each graph: that which stands behind it.
func checkTexts(t *testing.T, rows [][3]string) {
	t.Helper()
	for _, of := range rows {
		g := graphs.Of(of[0])
		checkWaves(t, g, graphs.Of(of[2]))
		checkNamed(t, g, row(of[1]))
	}
}
