package wave

import (
	"slices"
	"testing"

	"warp/graphs"
	"warp/lists"
	"warp/scc"
)

// leads tells to which other groups one leads, as the chapter says it: some node of it leads to a node of theirs. What
// is no node is in no group.
func leads(g, groups [][]int, i int) []int {
	var l []int
	for _, x := range groups[i] {
		for _, y := range g[x] {
			for j, group := range groups {
				if j != i && slices.Contains(group, y) {
					l = append(l, j)
				}
			}
		}
	}
	return l
}

// plainLevels tells that of Levels, word by word: it asks of each group the levels of those to which it leads.
func plainLevels(g [][]int) []int {
	groups := scc.Of(g)
	known := make([]int, len(groups)) // each level that is known, and 1
	var level func(i int) int
	level = func(i int) int {
		if known[i] == 0 {
			known[i] = 1
			for _, j := range leads(g, groups, i) {
				known[i] = max(known[i], level(j)+2)
			}
		}
		return known[i] - 1
	}
	var l []int
	for i := range groups {
		l = append(l, level(i))
	}
	return l
}

// plainWaves tells the places of each level from 0 to the greatest.
func plainWaves(levels []int) [][]int {
	var waves [][]int
	at := map[int][]int{}
	for i, level := range levels {
		at[level] = append(at[level], i)
	}
	for level := range len(at) {
		waves = append(waves, at[level])
	}
	return waves
}

// inWaves tells of each group of g in which wave it is. It checks that it is in one alone, that no wave is empty, and
// that the places in each rise.
func inWaves(t *testing.T, g [][]int) []int {
	t.Helper()
	n := len(scc.Of(g))
	wave, times := make([]int, n), make([]int, n)
	for level, places := range Waves(g) {
		if len(places) == 0 {
			t.Fatalf("of %s: wave %d is empty", graphs.Cut(g), level)
		}
		for k, i := range places {
			if i < 0 || i >= n || k > 0 && places[k-1] >= i {
				t.Fatalf("of %s: wave %d is %v", graphs.Cut(g), level, some(places))
			}
			wave[i] = level
			times[i]++
		}
	}
	if !slices.Equal(times, lists.Of(n, 1)) {
		t.Fatalf("of %s: groups are in so many waves: %v", graphs.Cut(g), some(times))
	}
	return wave
}

// checkBehind checks 16.2: a group leads to such alone that are in waves ahead of its own. By 16.1 it leads to one of
// the wave just ahead, if it is not in the first.
func checkBehind(t *testing.T, g [][]int) {
	t.Helper()
	wave := inWaves(t, g)
	checkLevels(t, g, wave)
	least := make([]int, len(wave)) // of each group the first wave in which it may be
	in, group := ofNodes(g, wave), ofNodes(g, lists.Span(0, len(wave)-1))
	for x, to := range g {
		for _, y := range to {
			if y < 0 || y >= len(g) || group[x] == group[y] {
				continue
			}
			if in[y] >= in[x] {
				t.Fatalf("of %s: node %d, of wave %d, leads to %d of wave %d", graphs.Cut(g), x, in[x], y, in[y])
			}
			least[group[x]] = max(least[group[x]], in[y]+1)
		}
	}
	if !slices.Equal(least, wave) {
		t.Fatalf("of %s: groups are in waves %v, want %v", graphs.Cut(g), some(wave), some(least))
	}
}

// checkPlain checks that Levels and Waves tell what the chapter says of g.
func checkPlain(t *testing.T, g [][]int) {
	t.Helper()
	check(t, g, plainLevels(g))
	checkBehind(t, g)
}
