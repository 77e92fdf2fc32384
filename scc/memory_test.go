package scc

import (
	"slices"
	"testing"

	"warp/graphs"
	"warp/lists"
	"warp/plays"
)

// R3: what is told is new memory; what is handed in is neither changed nor kept.

func drawn(next func(int) int) [][]int {
	return graphs.Spoilt(next, graphs.Drawn(next, 1+next(12), 3), 2)
}

func TestNoTwoListsShareMemory(t *testing.T) {
	next := plays.Below(156)
	for range 500 {
		g := drawn(next)
		if graphs.Shared(g, Of(g), Of(g)) {
			t.Fatalf("%s: two lists share memory", graphs.Cut(g))
		}
	}
	for _, g := range [][][]int{single(40), graphs.Ring(40), graphs.Behind(single(9), graphs.Ring(9), single(9))} {
		if graphs.Shared(g, Of(g), Of(g)) {
			t.Fatalf("%s: two lists share memory", graphs.Cut(g))
		}
	}
}

func TestWritingChangesNothing(t *testing.T) {
	next := plays.Below(157)
	for range 500 {
		g := graphs.Roomy(drawn(next), 0)
		was, to := graphs.Copy(g), ways(g)
		groups := Of(g)
		want := graphs.Copy(groups)
		again := Of(g)
		graphs.Scribble(groups, -7)
		if !graphs.Same(g, was) || !graphs.Same(again, want) {
			t.Fatalf("%s: writing into what is told changed something", graphs.Cut(was))
		}
		checkOf(t, g, want)
		checkReach(t, g, 0, len(g)-1, slices.Contains(to[0], len(g)-1))
		graphs.Scribble(g, 0)
		if !graphs.Same(again, want) {
			t.Fatalf("%s: writing into what was handed in changed what is told", graphs.Cut(was))
		}
	}
}

// Whoever appends to one group changes no other one.
func TestAppendingChangesNothing(t *testing.T) {
	for _, g := range [][][]int{graphs.Of("1 / 0 2 / 3 / 2 5 / - / 6 / 7 / 5 / -"), single(9), graphs.Ring(9)} {
		want := plainOf(g)
		for i := range want {
			got := Of(g)
			for range 20 {
				got[i] = append(got[i], -7)
			}
			got[i] = got[i][:len(want[i])]
			if !graphs.Same(got, want) {
				t.Errorf("appending to group %d: %s, want %s", i, graphs.Cut(got), graphs.Cut(want))
			}
		}
		checkOf(t, g, want)
	}
}

// What was handed in is not kept: whoever writes into it changes no answer that is still to come.
func TestNothingIsKept(t *testing.T) {
	next := plays.Below(158)
	for range 300 {
		g, other := drawn(next), drawn(next)
		want, to := graphs.Copy(Of(other)), ways(other)
		Of(g)
		Reach(g, 0, len(g)-1)
		graphs.Scribble(g, 0)
		Of(g)
		Reach(g, 0, 0)
		checkOf(t, other, want)
		checkReach(t, other, 0, len(other)-1, slices.Contains(to[0], len(other)-1))
		checkOf(t, graphs.Of("1 / 2 / 1"), graphs.Of("0 / 1 2"))
	}
}

// TestListsThatShareMemory hands in rows of one memory, with spare room behind that leads elsewhere.
func TestListsThatShareMemory(t *testing.T) {
	l := lists.Roomy([]int{1, 2, 3, 0, 4}, 0)
	g := lists.Roomy([][]int{l[:1], l[1:2], l[:3], l[4:], l[4:5], l[:0], l[2:4]}, []int{0, 1, 2, 3, 4, 5, 6})
	want := graphs.Of("0 / 1 2 / 3 / 4 / 5 / 6")
	checkOf(t, g, want)
	checkOf(t, slices.Clip(g), want)
	for a, to := range graphs.Of("0 1 2 3 4 / 1 2 3 4 / 1 2 3 4 / 3 4 / 4 / 5 / 0 1 2 3 4 6") {
		for b := range g {
			checkReach(t, g, a, b, slices.Contains(to, b))
		}
		checkReach(t, g, a, len(g), false)
		checkReach(t, g, len(g), a, false)
	}
	for a, first := range []int{1, 2, 1, 4, 4} {
		if &g[a][0] != &l[slices.Index(l, first)] {
			t.Errorf("row %d is in another memory", a)
		}
	}
	if l[:6][5] != 0 || len(g[:8][7]) != 7 || !slices.Equal(l, []int{1, 2, 3, 0, 4}) {
		t.Error("what was handed in is another")
	}
}
