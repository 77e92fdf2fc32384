package scc

import (
	"slices"
	"testing"

	"warp/graphs"
	"warp/lists"
)

// Promise 15.1, of Reach.

func TestNoNodes(t *testing.T) {
	for _, g := range [][][]int{nil, {}, {nil}, {{0}}, {{1}, {0}}, {nil, {2, 0}, nil}, graphs.Ring(7), graphs.Chain(300)} {
		checkNoNodes(t, g)
		// Nor does one come by what is no node, though it is named.
		for _, no := range graphs.NoNodes(len(g)) {
			for x := range min(len(g), 4) {
				led := graphs.Copy(g)
				led[x] = append(led[x], no)
				checkReach(t, led, x, no, false)
				checkReach(t, led, no, no, false)
				checkReach(t, led, no, x, false)
			}
		}
	}
	for _, x := range []int{-1, 0, 1} {
		checkReach(t, nil, x, x, false)
		checkReach(t, [][]int{}, x, 0, false)
		checkReach(t, nil, 0, x, false)
	}
}

func TestANodeAndItself(t *testing.T) {
	checkWayTexts(t, [][2]string{{"", ""}, {"-", "0"}, {"0", "0"}, {"0 0", "0"}, {"-1", "0"}, {"1", "0"}, {"1 0 -1", "0"},
		{"- / -", "0 / 1"}, {"0 / -", "0 / 1"}, {"- / 1", "0 / 1"}, {"0 / 1", "0 / 1"},
		{"- / - / -", "0 / 1 / 2"}, {"0 / - / 2", "0 / 1 / 2"}, {"- / - / - / - / -", "0 / 1 / 2 / 3 / 4"}})
}

func TestEdges(t *testing.T) {
	checkWayTexts(t, [][2]string{
		// One, either way.
		{"1 / -", "0 1 / 1"}, {"- / 0", "0 / 0 1"}, {"1 / 0", "0 1 / 0 1"}, {"1 / 1", "0 1 / 1"}, {"0 1 / -", "0 1 / 1"},
		{"- / - / 0", "0 / 1 / 0 2"}, {"2 / - / -", "0 2 / 1 / 2"},
		// Two: behind one another, from one, to one.
		{"1 / 2 / -", "0 1 2 / 1 2 / 2"}, {"- / 0 / 1", "0 / 0 1 / 0 1 2"}, {"2 / - / 1", "0 1 2 / 1 / 1 2"},
		{"1 2 / - / -", "0 1 2 / 1 / 2"}, {"- / 0 2 / -", "0 / 0 1 2 / 2"}, {"2 / 2 / -", "0 2 / 1 2 / 2"},
		{"1 / - / 1", "0 1 / 1 / 1 2"}, {"- / 0 / 0", "0 / 0 1 / 0 2"},
		// Several rows of some, that meet and that do not.
		{"1 / - / 3 / -", "0 1 / 1 / 2 3 / 3"}, {"1 / 3 / 3 / -", "0 1 3 / 1 3 / 2 3 / 3"},
		{"1 2 / 3 / 3 / -", "0 1 2 3 / 1 3 / 2 3 / 3"}, {"3 / 0 / 1 / -", "0 3 / 0 1 3 / 0 1 2 3 / 3"},
		{"1 3 / 2 / - / 4 / 5 / -", "0 1 2 3 4 5 / 1 2 / 2 / 3 4 5 / 4 5 / 5"},
		{"- / 0 / 0 1 / 0 1 2", "0 / 0 1 / 0 1 2 / 0 1 2 3"}, {"1 2 3 / 2 3 / 3 / -", "0 1 2 3 / 1 2 3 / 2 3 / 3"},
		// A node with no edges, and one to which none leads.
		{"2 / - / 0", "0 2 / 1 / 0 2"}, {"1 / 0 / 0", "0 1 / 0 1 / 0 1 2"}, {"1 / 0 / 2 1", "0 1 / 0 1 / 0 1 2"},
		{"1 2 / 0 / -", "0 1 2 / 0 1 2 / 2"}})
}

func TestRings(t *testing.T) {
	checkWayTexts(t, [][2]string{{"1 / 2 / 0", "0 1 2 / 0 1 2 / 0 1 2"}, {"2 / 0 / 1", "0 1 2 / 0 1 2 / 0 1 2"},
		// Into a ring, out of it, through it.
		{"1 / 2 / 1", "0 1 2 / 1 2 / 1 2"}, {"1 / 0 2 / -", "0 1 2 / 0 1 2 / 2"},
		{"1 / 2 / 1 3 / -", "0 1 2 3 / 1 2 3 / 1 2 3 / 3"}, {"2 / - / 3 / 2 1", "0 1 2 3 / 1 / 1 2 3 / 1 2 3"},
		// From ring to ring, and not back.
		{"1 / 0 2 / 3 / 2", "0 1 2 3 / 0 1 2 3 / 2 3 / 2 3"}, {"1 / 0 / 3 / 2 0", "0 1 / 0 1 / 0 1 2 3 / 0 1 2 3"},
		{"1 / 0 / 3 / 2", "0 1 / 0 1 / 2 3 / 2 3"},
		// Two rings of which one node is both's.
		{"1 / 0 2 / 1", "0 1 2 / 0 1 2 / 0 1 2"}})
}

// TestWhatIsNoNodeLeadsNowhere puts rows where what is no node could lead, if it counted.
func TestWhatIsNoNodeLeadsNowhere(t *testing.T) {
	checkWayTexts(t, [][2]string{{"-1 / -", "0 / 1"}, {"-2 / 0", "0 / 0 1"}, {"2 / 0", "0 / 0 1"}, {"3 1 / -", "0 1 / 1"},
		{"-1 1 -1 / 2 -3 / 4", "0 1 2 / 1 2 / 2"}, {"4294967297 / 256", "0 / 1"}, {"-4294967295 65537 / -", "0 / 1"},
		{"9223372036854775807 1 / -9223372036854775808 / 1", "0 1 / 1 / 1 2"}})
}

// wayOf tells of n nodes in a row which ones one comes to from each.
func wayOf(n int) [][]int {
	var l [][]int
	for x := range n {
		l = append(l, lists.Span(x, n-1))
	}
	return l
}

func TestRowsOfMany(t *testing.T) {
	for _, n := range []int{3, 7, 15} {
		checkWays(t, graphs.Chain(n), wayOf(n))
		back := make([][]int, n)
		for x := range n {
			back[x] = lists.Span(0, x)
		}
		checkWays(t, graphs.Turned(graphs.Chain(n)), back)
		checkWays(t, graphs.Ring(n), slices.Repeat([][]int{lists.Span(0, n-1)}, n))
	}
	for _, n := range []int{2, 100, 255, 256, 257, 1000} {
		chain, ring := graphs.Chain(n), graphs.Ring(n)
		for _, x := range []int{0, 1, n / 2, n - 2, n - 1} {
			for _, y := range []int{0, 1, n / 2, n - 2, n - 1} {
				checkReach(t, chain, x, y, x <= y)
				checkReach(t, graphs.Turned(chain), x, y, x >= y)
				checkReach(t, ring, x, y, true)
				checkReach(t, graphs.Turned(ring), x, y, true)
			}
		}
	}
}
