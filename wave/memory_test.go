package wave

import (
	"slices"
	"testing"

	"warp/graphs"
	"warp/lists"
	"warp/plays"
)

// R3: what is told is new memory; what is handed in is neither changed nor kept.

func drawn(next func(int) int) [][]int {
	return graphs.Spoilt(next, graphs.Drawn(next, 1+next(12), 3), 2)
}

// graphsOfMany tells graphs whose waves are many, are long, or both.
func graphsOfMany() [][][]int {
	return [][][]int{make([][]int, 40), graphs.Chain(40), graphs.Turned(graphs.Chain(40)), graphs.Ring(40),
		graphs.Behind(graphs.Chain(9), graphs.Ring(9), graphs.Chain(20)),
		graphs.Behind(slices.Repeat([][][]int{graphs.Chain(7)}, 9)...)}
}

func TestNoTwoListsShareMemory(t *testing.T) {
	next, all := plays.Below(166), graphsOfMany()
	for range 500 {
		all = append(all, drawn(next))
	}
	for _, g := range all {
		if graphs.Shared(g, Waves(g), Waves(g), [][]int{Levels(g), Levels(g)}) {
			t.Fatalf("%s: two lists share memory", graphs.Cut(g))
		}
	}
}

func TestWritingChangesNothing(t *testing.T) {
	next := plays.Below(167)
	for range 500 {
		g := graphs.Roomy(drawn(next), 0)
		was := graphs.Copy(g)
		levels, waves := Levels(g), Waves(g)
		want := slices.Clone(levels)
		againLevels, againWaves := Levels(g), Waves(g)
		lists.Scribble(levels, -7)
		graphs.Scribble(waves, -7)
		if !graphs.Same(g, was) || !slices.Equal(againLevels, want) || !graphs.Same(againWaves, plainWaves(want)) {
			t.Fatalf("%s: writing into what is told changed something", graphs.Cut(was))
		}
		check(t, g, want)
		graphs.Scribble(g, 0)
		if !slices.Equal(againLevels, want) || !graphs.Same(againWaves, plainWaves(want)) {
			t.Fatalf("%s: writing into what was handed in changed what is told", graphs.Cut(was))
		}
	}
}

// Whoever appends to one wave changes no other one.
func TestAppendingChangesNothing(t *testing.T) {
	for _, g := range graphsOfMany() {
		want := plainWaves(plainLevels(g))
		for i := range want {
			got := Waves(g)
			for range 20 {
				got[i] = append(got[i], -7)
			}
			got[i] = got[i][:len(want[i])]
			if !graphs.Same(got, want) {
				t.Errorf("appending to wave %d: %s, want %s", i, graphs.Cut(got), graphs.Cut(want))
			}
		}
		checkWaves(t, g, want)
	}
}

// What was handed in is not kept: whoever writes into it changes no answer that is still to come.
func TestNothingIsKept(t *testing.T) {
	next := plays.Below(168)
	for range 300 {
		g, other := drawn(next), drawn(next)
		want := plainLevels(other)
		Levels(g)
		Waves(g)
		graphs.Scribble(g, 0)
		Levels(g)
		Waves(g)
		check(t, other, want)
		check(t, graphs.Of("1 / 2 / 1"), row("1 0"))
	}
}

// TestListsThatShareMemory hands in rows of one memory, with spare room behind that leads elsewhere.
func TestListsThatShareMemory(t *testing.T) {
	l := lists.Roomy([]int{1, 2, 3, 0, 4}, 0)
	g := lists.Roomy([][]int{l[:1], l[1:2], l[:3], l[4:], l[4:5], l[:0], l[2:4]}, []int{0, 1, 2, 3, 4, 5, 6})
	levels := row("3 2 1 0 0 4") // the groups are 0 / 1 2 / 3 / 4 / 5 / 6
	check(t, g, levels)
	check(t, slices.Clip(g), levels)
	for a, first := range []int{1, 2, 1, 4, 4} {
		if &g[a][0] != &l[slices.Index(l, first)] {
			t.Errorf("row %d is in another memory", a)
		}
	}
	if l[:6][5] != 0 || len(g[:8][7]) != 7 || !slices.Equal(l, []int{1, 2, 3, 0, 4}) {
		t.Error("what was handed in is another")
	}
}
