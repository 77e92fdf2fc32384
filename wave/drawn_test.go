package wave

import (
	"fmt"
	"slices"
	"testing"

	"warp/graphs"
	"warp/lists"
	"warp/plays"
	"warp/scc"
)

// Drawn graphs, and all small ones, held against what the chapter says.

func TestSmallGraphs(t *testing.T) {
	count := 0
	for n := range 4 {
		graphs.Each(n, func(g [][]int) {
			checkPlain(t, g)
			count++
		})
	}
	if count != 1+2+16+512 {
		t.Errorf("%d graphs", count)
	}
}

// TestSmallRows hands in all rows of up to two numbers, nodes and others, each at each of two nodes.
func TestSmallRows(t *testing.T) {
	var rows [][]int
	for n := range 3 {
		lists.Each(n, []int{-1, 0, 1, 2}, func(l []int) { rows = append(rows, l) })
	}
	for _, first := range rows {
		for _, second := range rows {
			checkPlain(t, [][]int{first, second})
		}
	}
}

func TestGraphsOfFour(t *testing.T) {
	count := 0
	graphs.Each(4, func(g [][]int) {
		for x, row := range g {
			if slices.Contains(row, x) {
				return
			}
		}
		check(t, g, plainLevels(g))
		count++
	})
	if count != 1<<12 {
		t.Errorf("%d graphs", count)
	}
}

// see counts what g has in it.
func see(seen map[string]int, g [][]int) {
	groups, levels := scc.Of(g), plainLevels(g)
	seen[fmt.Sprint("waves: ", min(slices.Max(levels)+1, 6))]++
	if !slices.IsSorted(levels) && slices.Max(levels) > 1 {
		seen["levels that do not rise with the places"]++
	}
	for i, group := range groups {
		others := leads(g, groups, i)
		if len(group) > 1 && len(others) > 0 {
			seen["a group of several that leads out"]++
		}
		if l := slices.Compact(slices.Sorted(slices.Values(others))); len(l) < len(others) {
			seen["an edge twice"]++
		}
		at := func(j int) int { return levels[j] }
		if len(others) > 1 && at(others[0]) > at(others[len(others)-1]) {
			seen["the greatest level first"]++
		}
		if len(others) > 1 && at(others[0]) < at(others[len(others)-1]) {
			seen["the greatest level last"]++
		}
		if slices.ContainsFunc(others, func(j int) bool { return at(j) < levels[i]-1 }) {
			seen["a short way"]++
		}
	}
	for _, row := range g {
		if slices.ContainsFunc(row, func(y int) bool { return y < 0 || y >= len(g) }) {
			seen["no node"]++
		}
	}
}

func TestDrawnGraphs(t *testing.T) {
	next, seen := plays.Below(161), map[string]int{}
	for i := range 6000 {
		g := graphs.Spoilt(next, graphs.Drawn(next, 1+next(12), 2+next(3)), i%4)
		checkPlain(t, g)
		see(seen, g)
	}
	want := []string{"levels that do not rise with the places", "a group of several that leads out", "an edge twice",
		"the greatest level first", "the greatest level last", "a short way", "no node"}
	for n := 1; n <= 6; n++ {
		want = append(want, fmt.Sprint("waves: ", n))
	}
	for _, what := range want {
		if seen[what] < 100 {
			t.Errorf("%s: %d times", what, seen[what])
		}
	}
}

// TestGraphsOfMany draws graphs of some 100 nodes, where each leads to so many that some groups are great.
func TestGraphsOfMany(t *testing.T) {
	next := plays.Below(162)
	great, high := 0, 0
	for i := range 60 {
		g := graphs.Spoilt(next, graphs.Drawn(next, 60+next(60), 2+i%4), i)
		checkPlain(t, g)
		if len(scc.Of(g)) < len(g)-30 {
			great++
		}
		if len(Waves(g)) > 5 {
			high++
		}
	}
	if great < 20 || high < 20 {
		t.Errorf("%d times great groups, %d times many waves", great, high)
	}
}

// TestWavesDrawn makes graphs whose waves are known: rings, each of which leads to one of the wave ahead of its own, and
// to some that are further ahead; all of it named by drawn names.
func TestWavesDrawn(t *testing.T) {
	next := plays.Below(163)
	for range 400 {
		var g [][]int
		var at []int // of each node its level
		var starts [][]int
		waves := 1 + next(8)
		for level := range waves {
			starts = append(starts, nil)
			for range 1 + next(4) {
				start, n := len(g), 1+next(5)
				starts[level] = append(starts[level], start)
				g = graphs.Behind(g, graphs.Ring(n))
				at = append(at, lists.Of(n, level)...)
				for k := range 1 + next(4) {
					if level == 0 {
						break
					}
					ahead := starts[level-1]
					if k > 0 {
						ahead = starts[next(level)]
					}
					x := start + next(n)
					g[x] = slices.Insert(g[x], next(len(g[x])+1), ahead[next(len(ahead))])
				}
			}
		}
		p := lists.Span(0, len(g)-1)
		lists.Shuffle(next, p)
		named := graphs.Renamed(g, p)
		levels := ofGroups(g, at)
		check(t, g, levels)
		check(t, named, renamed(g, levels, p))
		checkBehind(t, graphs.Spoilt(next, named, 3))
	}
}
