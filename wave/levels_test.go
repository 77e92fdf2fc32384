package wave

import (
	"slices"
	"testing"

	"warp/graphs"
	"warp/lists"
)

// Promise 16.1, of Levels; what Waves tells of the same graphs stands beside it.

func TestFewNodes(t *testing.T) {
	check(t, nil, nil)
	check(t, [][]int{}, nil)
	checkTexts(t, [][3]string{{"", "", ""}, {"-", "0", "0"}, {"0", "0", "0"}, {"0 0", "0", "0"}, {"-1", "0", "0"},
		{"1", "0", "0"},
		// Two: one edge, either way, and both.
		{"- / -", "0 0", "0 1"}, {"1 / -", "1 0", "1 / 0"}, {"- / 0", "0 1", "0 / 1"}, {"1 / 0", "0", "0"},
		{"0 / 1", "0 0", "0 1"}, {"0 1 / 1", "1 0", "1 / 0"}, {"1 0 / -", "1 0", "1 / 0"}, {"0 1 / 0 1", "0", "0"},
		{"1 / 1", "1 0", "1 / 0"}, {"0 / 0", "0 1", "0 / 1"}, {"0 / 1 0", "0 1", "0 / 1"}})
}

func TestNoEdges(t *testing.T) {
	for _, n := range []int{1, 2, 3, 10, 100} {
		var own [][]int
		for x := range n {
			own = append(own, []int{x})
		}
		for _, g := range [][][]int{make([][]int, n), own} {
			check(t, g, make([]int, n))
			checkWaves(t, g, [][]int{lists.Span(0, n-1)})
			for _, said := range graphs.Said(g) {
				check(t, said, make([]int, n))
			}
		}
	}
}

func TestRowsOfGroups(t *testing.T) {
	checkTexts(t, [][3]string{{"1 / 2 / -", "2 1 0", "2 / 1 / 0"}, {"- / 0 / 1", "0 1 2", "0 / 1 / 2"},
		{"1 / - / 1", "1 0 1", "1 / 0 2"}, {"- / 0 2 / -", "0 1 0", "0 2 / 1"}, {"2 / - / -", "1 0 0", "1 2 / 0"},
		{"1 / 2 / 3 / -", "3 2 1 0", "3 / 2 / 1 / 0"}, {"1 / - / 3 / -", "1 0 1 0", "1 3 / 0 2"},
		// Groups of two nodes and of more.
		{"1 / 0 2 / 3 / 2", "1 0", "1 / 0"}, {"1 / 0 / 3 / 2 0", "0 1", "0 / 1"}, {"1 / 0 / 3 / 2", "0 0", "0 1"},
		{"1 / 0 2 / 3 / 2 4 / -", "2 1 0", "2 / 1 / 0"}, {"1 / 0 2 / 3 / 4 / 2 5 / 6 / 5", "2 1 0", "2 / 1 / 0"},
		{"1 / 0 / 3 0 / 2 / 5 2 / 4", "0 1 2", "0 / 1 / 2"}, {"1 2 / 0 4 / 3 / 2 / 5 / 4", "1 0 0", "1 2 / 0"},
		{"1 2 / 0 / 3 / 2 5 / 5 / 4 6 / -", "3 2 1 0", "3 / 2 / 1 / 0"}})
}

// TestOneNodeLeadsOut has a group of many nodes, one of which alone leads out: the first, one in the midst, the last.
func TestOneNodeLeadsOut(t *testing.T) {
	for n := 2; n <= 6; n++ {
		for x := range n {
			for _, behind := range []bool{false, true} {
				g := graphs.Behind(graphs.Ring(n), graphs.Chain(3))
				g[x] = slices.Insert(g[x], 0, n)
				if behind {
					slices.Reverse(g[x])
				}
				checkNamed(t, g, []int{3, 2, 1, 0})
				// All other nodes lead to the end of the row.
				for other := range n {
					if other != x {
						g[other] = slices.Insert(g[other], x%2, n+2)
					}
				}
				checkNamed(t, g, []int{3, 2, 1, 0})
			}
		}
		for in := range n { // it is led to by one edge: of the first, one in the midst, the last
			g := graphs.Behind(graphs.Chain(2), graphs.Ring(n))
			g[1] = []int{2 + in}
			checkNamed(t, g, []int{2, 1, 0})
		}
	}
}

// TestUnlikeLevels has a group lead to others of unlike levels, in each order: the greatest first, in the midst, last.
func TestUnlikeLevels(t *testing.T) {
	for n := 1; n <= 4; n++ {
		lists.Each(n, []int{0, 1, 2, 3}, func(levels []int) {
			g := graphs.Behind([][]int{nil}, graphs.Turned(graphs.Chain(4)))
			for _, level := range levels {
				g[0] = append(g[0], 1+level)
			}
			want := []int{slices.Max(levels) + 1, 0, 1, 2, 3}
			check(t, g, want)
			for _, p := range [][]int{{4, 3, 2, 1, 0}, {3, 0, 4, 1, 2}, {2, 4, 1, 3, 0}} {
				check(t, graphs.Renamed(g, p), renamed(g, want, p))
			}
		})
	}
	lists.Orders([]int{0, 1, 2, 3}, func(levels []int) {
		// One node leads to all; each of a ring leads to one.
		one := graphs.Behind([][]int{nil}, graphs.Turned(graphs.Chain(4)))
		ring := graphs.Behind(graphs.Ring(4), graphs.Turned(graphs.Chain(4)))
		for i, level := range levels {
			one[0] = append(one[0], 1+level)
			ring[i] = append(ring[i], 4+level)
		}
		checkNamed(t, one, []int{4, 0, 1, 2, 3})
		checkNamed(t, ring, []int{4, 0, 1, 2, 3})
	})
}

// TestLedToOften has a group lead to another one more than once, by one node and by several, to one and to several.
func TestLedToOften(t *testing.T) {
	checkTexts(t, [][3]string{{"1 1 / -", "1 0", "1 / 0"}, {"1 1 1 / 2 2 / -", "2 1 0", "2 / 1 / 0"},
		{"- / 0 0 / 1 1", "0 1 2", "0 / 1 / 2"}, {"1 2 / 0 2 / -", "1 0", "1 / 0"},
		{"1 2 2 / 0 2 2 / 3 3 / -", "2 1 0", "2 / 1 / 0"},
		{"1 2 / 0 2 / 3 / -", "2 1 0", "2 / 1 / 0"}, {"1 2 3 / 0 / 3 / 2", "1 0", "1 / 0"},
		{"1 2 / 0 3 / 3 / 2", "1 0", "1 / 0"}, {"1 2 3 / 0 2 3 / 3 / 2", "1 0", "1 / 0"},
		{"1 / 0 / 3 0 1 / 2 0 1", "0 1", "0 / 1"},
		{"1 3 / 2 3 / 0 3 / 4 / 3 5 5 / -", "2 1 0", "2 / 1 / 0"}, {"1 1 2 2 / 2 2 / -", "2 1 0", "2 / 1 / 0"},
		{"2 1 2 1 / 2 / 3 3 / -", "3 2 1 0", "3 / 2 / 1 / 0"}, {"3 1 3 / 2 / - / 2", "2 1 0 1", "2 / 1 3 / 0"}})
}

// TestLongAndShort has a long way beside a short one to the same group, the one first and the other.
func TestLongAndShort(t *testing.T) {
	checkTexts(t, [][3]string{{"1 2 / 2 / -", "2 1 0", "2 / 1 / 0"}, {"2 1 / 2 / -", "2 1 0", "2 / 1 / 0"},
		{"1 2 / - / 1", "2 0 1", "1 / 2 / 0"}, {"- / 2 0 / 0", "0 2 1", "0 / 2 / 1"},
		{"1 2 / 3 / 3 / -", "2 1 1 0", "3 / 1 2 / 0"}, {"1 3 / 2 / 4 / 4 / -", "3 2 1 1 0", "4 / 2 3 / 1 / 0"},
		{"3 1 / 2 / 4 / 4 / -", "3 2 1 1 0", "4 / 2 3 / 1 / 0"},
		{"1 4 / 2 / 3 / 4 / -", "4 3 2 1 0", "4 / 3 / 2 / 1 / 0"},
		{"4 1 / 2 / 3 / 4 / -", "4 3 2 1 0", "4 / 3 / 2 / 1 / 0"},
		{"1 2 / 5 / 3 / 4 / 5 / -", "4 1 3 2 1 0", "5 / 1 4 / 3 / 2 / 0"},
		{"2 1 / 5 / 3 / 4 / 5 / -", "4 1 3 2 1 0", "5 / 1 4 / 3 / 2 / 0"},
		{"1 2 3 / 2 3 / 3 / -", "3 2 1 0", "3 / 2 / 1 / 0"}, {"- / 0 / 0 1 / 0 1 2", "0 1 2 3", "0 / 1 / 2 / 3"},
		// By groups of two: the long way leaves it by the one node, the short one by the other.
		{"1 2 / 0 5 / 3 / 4 / 5 / -", "4 3 2 1 0", "4 / 3 / 2 / 1 / 0"},
		{"1 5 / 0 2 / 3 / 4 / 5 / -", "4 3 2 1 0", "4 / 3 / 2 / 1 / 0"},
		{"1 6 / 2 / 1 3 / 4 / 3 5 / 6 / -", "4 3 2 1 0", "4 / 3 / 2 / 1 / 0"}})
	for n := 3; n <= 7; n++ {
		for to := 2; to < n; to++ {
			for at := range 2 {
				g := graphs.Chain(n)
				g[0] = slices.Insert(g[0], at, to)
				want := lists.Span(0, n-1)
				slices.Reverse(want)
				checkNamed(t, g, want)
			}
		}
	}
}

// TestOrderOfGroups has groups whose order in scc.Of is not that of their levels.
func TestOrderOfGroups(t *testing.T) {
	checkTexts(t, [][3]string{{"1 / 0 / 0 9 -1 / - / 3", "0 1 0 1", "0 2 / 1 3"},
		{"1 2 / 0 3 / 2 3 / -", "2 1 0", "2 / 1 / 0"}, {"4 / 0 / 1 / 0 2 / -", "1 2 3 4 0", "4 / 0 / 1 / 2 / 3"},
		{"2 / - / 1", "2 0 1", "1 / 2 / 0"}, {"- / 2 / 0", "0 2 1", "0 / 2 / 1"}, {"2 / 0 / -", "1 2 0", "2 / 0 / 1"},
		{"3 / 0 / 1 / -", "1 2 3 0", "3 / 0 / 1 / 2"}, {"- / 3 / 1 / 0", "0 2 3 1", "0 / 3 / 1 / 2"},
		{"2 / 3 / - / 0", "1 3 0 2", "2 / 0 / 3 / 1"}, {"3 / 2 / 0 / -", "1 3 2 0", "3 / 0 / 2 / 1"},
		// Groups that lie apart: their least nodes are in another order than those that lead.
		{"4 / 5 / 3 / 2 / 0 2 / 1 4", "1 2 0", "2 / 0 / 1"}, {"5 / 4 / 3 / 2 0 / 1 3 / 0", "0 2 1", "0 / 2 / 1"},
		{"3 / 4 6 / 5 / 0 2 / 1 / 2 / 3", "1 3 0 2", "2 / 0 / 3 / 1"}})
}

// TestWhatDoesNotCount has edges that lead to what is no node, and such that stay within a group.
func TestWhatDoesNotCount(t *testing.T) {
	checkTexts(t, [][3]string{{"-1 / -1", "0 0", "0 1"}, {"2 / -2", "0 0", "0 1"}, {"2 1 / 7", "1 0", "1 / 0"},
		{"7 / -1", "0 0", "0 1"}, {"-1 1 -1 / 5", "1 0", "1 / 0"}, {"-1 / 5 0 5", "0 1", "0 / 1"},
		{"9223372036854775807 1 / -9223372036854775808", "1 0", "1 / 0"}, {"4294967297 / 4294967296", "0 0", "0 1"},
		{"257 / 256", "0 0", "0 1"}, {"65537 / -65536", "0 0", "0 1"}, {"-4294967295 / 0", "0 1", "0 / 1"},
		// Within a group.
		{"0 1 / 1 2 / 2", "2 1 0", "2 / 1 / 0"}, {"1 2 / 2 0 / 0 1", "0", "0"}, {"1 2 0 / 2 0 / 0 1 / 3", "0 0", "0 1"},
		{"1 2 3 / 2 / 0 1 / 3", "1 0", "1 / 0"}, {"1 / 2 0 / 3 1 / 2", "0", "0"},
		{"1 2 3 / 0 2 3 / 0 1 3 / 0 1 2", "0", "0"}, {"1 2 3 / 0 2 3 / 0 1 3 / 0 1 2 4 / 4", "1 0", "1 / 0"}})
	// Each number that is no node, in each place of each row.
	g, want := graphs.Of("1 2 / 0 / 3 / - / 0 3"), []int{2, 1, 0, 3}
	for _, no := range graphs.NoNodes(len(g)) {
		for x, row := range g {
			for i := range len(row) + 1 {
				for times := range 4 {
					led := graphs.Copy(g)
					led[x] = slices.Insert(led[x], i, lists.Of(times, no)...)
					check(t, led, want)
				}
			}
		}
	}
}

// TestNilRows has rows of nil and empty ones beside such that lead somewhere.
func TestNilRows(t *testing.T) {
	check(t, [][]int{nil, {0}, nil, {3}, {}, {6}, {5, 4}}, row("0 1 0 0 0 1"))
	check(t, [][]int{{}, nil, {0, 1}}, row("0 0 1"))
	check(t, [][]int{{2}, nil, {0, 1}, {}}, row("1 0 0"))
	check(t, [][]int{{1, 3}, {}, {0}, nil}, row("1 0 2 0"))
}
