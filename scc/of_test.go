package scc

import (
	"slices"
	"testing"

	"warp/graphs"
	"warp/lists"
)

// Promises 15.1, of Of, and 15.2.

func TestFewNodes(t *testing.T) {
	checkOf(t, nil, nil)
	checkOf(t, [][]int{}, nil)
	checkTexts(t, [][2]string{{"", ""}, {"-", "0"}, {"0", "0"}, {"0 0", "0"}, {"-1", "0"}, {"1", "0"},
		// Two: one edge, either way, and both.
		{"- / -", "0 / 1"}, {"1 / -", "0 / 1"}, {"- / 0", "0 / 1"}, {"1 / 0", "0 1"}, {"0 / 1", "0 / 1"},
		{"0 1 / 1", "0 / 1"}, {"0 1 / 0 1", "0 1"}, {"1 / 1", "0 / 1"}, {"0 / 0", "0 / 1"}})
}

func TestNoEdges(t *testing.T) {
	for _, n := range []int{1, 2, 3, 10, 100} {
		var want [][]int
		for x := range n {
			want = append(want, []int{x})
		}
		checkOf(t, make([][]int, n), want)
		checkOf(t, want, want) // each leads to itself
		for _, said := range graphs.Said(make([][]int, n)) {
			checkOf(t, said, want)
		}
	}
}

func TestOneRing(t *testing.T) {
	checkTexts(t, [][2]string{{"1 / 2 / 0", "0 1 2"}, {"1 / 0 / -", "0 1 / 2"}, {"1 / 2 / 1", "0 / 1 2"},
		{"1 / 2 / 3 / 0", "0 1 2 3"}, {"1 / 2 / 0 / -", "0 1 2 / 3"}, {"1 / 2 / 0 3 / -", "0 1 2 / 3"},
		{"1 / 2 / 0 / 1", "0 1 2 / 3"}, {"1 / 2 / 3 / 1", "0 / 1 2 3"}, {"1 / 2 / 3 / -", "0 / 1 / 2 / 3"},
		{"1 2 / 3 / 3 / -", "0 / 1 / 2 / 3"}, {"1 2 / 3 / 3 / 0", "0 1 2 3"}, {"1 2 / 3 / - / 0", "0 1 3 / 2"},
		{"1 2 3 / 2 3 / 3 / -", "0 / 1 / 2 / 3"}, {"1 2 3 / 0 2 3 / 0 1 3 / 0 1 2", "0 1 2 3"}})
	for _, n := range []int{1, 2, 3, 4, 5, 8, 13} {
		all := lists.Span(0, n-1)
		checkGroups(t, graphs.Ring(n), [][]int{all})
		checkGroups(t, slices.Repeat([][]int{all}, n), [][]int{all})
	}
}

func TestTwoRings(t *testing.T) {
	checkTexts(t, [][2]string{{"1 / 0 / 3 / 2", "0 1 / 2 3"}, {"2 / 3 / 0 / 1", "0 2 / 1 3"},
		{"3 / 2 / 1 / 0", "0 3 / 1 2"},
		// One edge joins them, either way; two, of one way; two, of both.
		{"1 / 0 2 / 3 / 2", "0 1 / 2 3"}, {"1 / 0 / 3 / 2 0", "0 1 / 2 3"}, {"1 2 / 0 3 / 3 / 2", "0 1 / 2 3"},
		{"1 / 0 / 3 0 / 2 1", "0 1 / 2 3"}, {"1 / 0 2 / 3 / 2 0", "0 1 2 3"}, {"1 2 / 0 / 3 / 2 1", "0 1 2 3"},
		{"1 2 / 0 / 3 0 / 2", "0 1 2 3"},
		{"1 / 2 / 0 / 4 / 5 / 3", "0 1 2 / 3 4 5"}, {"1 / 2 / 0 3 / 4 / 5 / 3", "0 1 2 / 3 4 5"},
		{"1 / 2 4 / 0 / 4 / 5 / 3", "0 1 2 / 3 4 5"}, {"1 / 2 4 / 0 / 4 / 5 / 3 2", "0 1 2 3 4 5"},
		{"1 / 2 4 5 / 0 3 / 4 / 5 / 3", "0 1 2 / 3 4 5"},
		// By a node that is between.
		{"1 / 0 4 / 3 / 2 / 2", "0 1 / 2 3 / 4"}, {"1 / 0 4 / 3 0 / 2 / -", "0 1 / 2 3 / 4"},
		{"1 / 0 4 / 3 / 2 0 / 2", "0 1 2 3 4"},
		// Three, in a row, and in a ring of rings.
		{"1 / 0 2 / 3 / 2 4 / 5 / 4", "0 1 / 2 3 / 4 5"}, {"1 / 0 2 / 3 / 2 4 / 5 / 4 0", "0 1 2 3 4 5"},
		{"1 / 0 2 / 3 / 2 4 / 5 / 4 2", "0 1 / 2 3 4 5"}, {"1 / 0 4 / 3 / 2 4 / 5 / 4", "0 1 / 2 3 / 4 5"}})
}

func TestRingsThatShareNodes(t *testing.T) {
	checkTexts(t, [][2]string{
		// A ring within a ring.
		{"1 / 2 / 3 1 / 0", "0 1 2 3"}, {"1 / 2 / 3 / 2", "0 / 1 / 2 3"}, {"1 / 2 / 0 3 / 2", "0 1 2 3"},
		{"1 / 2 / 3 / 4 1 / 0", "0 1 2 3 4"}, {"1 / 2 / 3 / 1 4 / -", "0 / 1 2 3 / 4"},
		{"1 / 2 / 1 3 / 4 0 / 3", "0 1 2 3 4"}, {"1 / 2 / 3 / 4 2 / 5 1 / 0", "0 1 2 3 4 5"},
		{"1 / 2 / 3 / 4 2 / 5 1 / -", "0 / 1 2 3 4 / 5"},
		// Rings of which one node is all's.
		{"1 / 0 2 / 1", "0 1 2"}, {"1 3 / 2 / 0 / 4 / 0", "0 1 2 3 4"}, {"1 / 0 2 3 / 1 / 1", "0 1 2 3"},
		{"1 2 3 / 0 / 0 / -", "0 1 2 / 3"}, {"1 2 3 / 0 / - / 0", "0 1 3 / 2"},
		{"1 2 3 4 5 / 0 / 0 / 0 / 0 / 0", "0 1 2 3 4 5"},
		{"1 2 3 4 5 / 0 / - / 0 / 2 / 0", "0 1 3 5 / 2 / 4"}})
}

// TestGroupsThatLieApart has groups between whose nodes are those of other ones.
func TestGroupsThatLieApart(t *testing.T) {
	checkTexts(t, [][2]string{{"2 / - / 0", "0 2 / 1"}, {"2 / 0 / 0", "0 2 / 1"}, {"2 1 / - / 0", "0 2 / 1"},
		{"2 / 3 / 4 / 5 / 0 / 1", "0 2 4 / 1 3 5"}, {"5 / 4 / 3 / 2 / 1 / 0", "0 5 / 1 4 / 2 3"},
		{"5 / 4 / 3 / 2 0 / 1 2 / 0", "0 5 / 1 4 / 2 3"}, {"5 1 / 4 2 / 3 / 2 / 1 / 0", "0 5 / 1 4 / 2 3"},
		{"3 / 6 / 5 / 0 / 1 / 2 / 4", "0 3 / 1 4 6 / 2 5"}, {"3 1 / 6 / 5 / 0 / 1 2 / 2 / 4", "0 3 / 1 4 6 / 2 5"},
		{"4 / 5 / - / 6 / 0 / 1 / 3", "0 4 / 1 5 / 2 / 3 6"}, {"6 / - / - / - / - / - / 0", "0 6 / 1 / 2 / 3 / 4 / 5"}})
}

// TestWhereTheSearchComesFirst has groups that are met by another node than their least, and in another order.
func TestWhereTheSearchComesFirst(t *testing.T) {
	checkTexts(t, [][2]string{{"2 / 2 / 1", "0 / 1 2"}, {"3 / 2 / 1 3 / 2", "0 / 1 2 3"},
		{"4 / 3 / - / 1 / 3 0", "0 4 / 1 3 / 2"},
		{"5 / 2 / 1 / 4 / 3 2 / 4", "0 / 1 2 / 3 4 / 5"}, {"3 1 / - / 1 / 4 / 5 / 3 2", "0 / 1 / 2 / 3 4 5"},
		{"5 4 3 / 2 / 1 / 2 / 3 1 / 4 0", "0 5 / 1 2 / 3 / 4"}, {"6 / 3 / 5 / 1 4 / 3 / 2 6 / 4", "0 / 1 3 4 / 2 5 / 6"}})
}

// TestWhatDoesNotCount has edges that are there twice, that lead to where they come from, and to what is no node.
func TestWhatDoesNotCount(t *testing.T) {
	checkTexts(t, [][2]string{{"1 1 / -", "0 / 1"}, {"1 1 1 / 0 0", "0 1"}, {"0 1 0 / 1 1 1", "0 / 1"},
		{"-1 / -1", "0 / 1"}, {"2 / -2", "0 / 1"}, {"2 1 / 7", "0 / 1"}, {"1 2 / 2 0", "0 1"}, {"-1 1 -1 / 5 0 5", "0 1"},
		{"3 / 3 / 3", "0 / 1 / 2"}, {"1 3 / 3 2 / 3 -1 0", "0 1 2"}, {"1 -3 / 2 -3 / -3", "0 / 1 / 2"},
		{"9223372036854775807 1 / -9223372036854775808 0", "0 1"}, {"4294967297 / 4294967296", "0 / 1"},
		{"257 / 256", "0 / 1"}, {"65537 / -65536", "0 / 1"}, {"-4294967295 / 0", "0 / 1"}})
	// Each number that is no node, in each place of each row.
	g, want := graphs.Of("1 2 / 0 / 3 / - / 0 3"), graphs.Of("0 1 / 2 / 3 / 4")
	for _, no := range graphs.NoNodes(len(g)) {
		for x, row := range g {
			for i := range len(row) + 1 {
				for times := range 4 {
					led := graphs.Copy(g)
					led[x] = slices.Insert(led[x], i, lists.Of(times, no)...)
					checkOf(t, led, want)
				}
			}
		}
	}
}

// TestNilRows has rows of nil and empty ones beside such that lead somewhere.
func TestNilRows(t *testing.T) {
	checkOf(t, [][]int{nil, {0}, nil, {3}, {}, {6}, {5, 4}}, graphs.Of("0 / 1 / 2 / 3 / 4 / 5 6"))
	checkOf(t, [][]int{{}, nil, {0, 1}}, graphs.Of("0 / 1 / 2"))
	checkOf(t, [][]int{{2}, nil, {0, 1}, {}}, graphs.Of("0 2 / 1 / 3"))
}

// each checks 15.2: each node of g stands in one group, just once; groups rise, and so do their least nodes.
func each(t *testing.T, g [][]int) {
	t.Helper()
	count, least := make([]int, len(g)), -1
	for _, group := range Of(g) {
		if len(group) == 0 || group[0] <= least {
			t.Fatalf("%s: group %v behind one whose least is %d", graphs.Cut(g), group, least)
		}
		least = group[0]
		for i, x := range group {
			if x < 0 || x >= len(g) || i > 0 && x <= group[i-1] {
				t.Fatalf("%s: group %v", graphs.Cut(g), group)
			}
			count[x]++
		}
	}
	for x, times := range count {
		if times != 1 {
			t.Fatalf("%s: %d stands in %d groups", graphs.Cut(g), x, times)
		}
	}
}

func TestEachNodeStandsInOneGroup(t *testing.T) {
	some := graphs.Of("4 4 4 / 0 / 3 / 2 / 1 2")
	for _, g := range [][][]int{nil, {nil}, some, graphs.Ring(1), graphs.Ring(1000), graphs.Chain(1000),
		graphs.Turned(graphs.Chain(1000)), make([][]int, 1000), graphs.Behind(some, graphs.Ring(9), some, graphs.Chain(9)),
		slices.Repeat([][]int{lists.Span(0, 99)}, 100), slices.Repeat([][]int{lists.Span(50, 150)}, 100),
		slices.Repeat([][]int{{7}}, 100), slices.Repeat([][]int{graphs.NoNodes(100)}, 100)} {
		each(t, g)
		for _, said := range graphs.Said(g) {
			each(t, said)
		}
	}
}
