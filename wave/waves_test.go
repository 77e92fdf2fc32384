package wave

import (
	"slices"
	"testing"

	"warp/graphs"
	"warp/lists"
)

// Promises 16.1, of Waves, and 16.2.

// alone tells waves of one group each, those of l.
func alone(l []int) [][]int {
	var waves [][]int
	for _, x := range l {
		waves = append(waves, []int{x})
	}
	return waves
}

func TestOneWave(t *testing.T) {
	for _, n := range []int{1, 2, 3, 8, 40} {
		all := lists.Span(0, n-1)
		checkWaves(t, make([][]int, n), [][]int{all})
		checkWaves(t, alone(all), [][]int{all}) // each leads to itself
		checkWaves(t, graphs.Ring(n), [][]int{{0}})
		checkWaves(t, slices.Repeat([][]int{all}, n), [][]int{{0}})
		var rings [][]int
		for i := range n {
			rings = graphs.Behind(rings, graphs.Ring(1+i%3))
		}
		checkWaves(t, rings, [][]int{all})
		checkBehind(t, rings)
	}
}

func TestEachInAWaveOfItsOwn(t *testing.T) {
	for _, n := range []int{1, 2, 3, 8, 40} {
		up := lists.Span(0, n-1)
		down := slices.Clone(up)
		slices.Reverse(down)
		checkWaves(t, graphs.Chain(n), alone(down))
		checkWaves(t, graphs.Turned(graphs.Chain(n)), alone(up))
		var rings [][]int // each leads to the next
		for i := range n {
			rings = graphs.Behind(rings, graphs.Ring(1+i%4))
			rings[len(rings)-1] = append(rings[len(rings)-1], len(rings))
		}
		checkWaves(t, rings, alone(down))
		checkBehind(t, rings)
	}
}

// TestWavesOfMany has waves of many groups, of which the places lie between those of other waves.
func TestWavesOfMany(t *testing.T) {
	for _, waves := range []int{1, 2, 3, 7} {
		for _, width := range []int{1, 2, 5, 30} {
			n := waves * width
			g, want := make([][]int, n), make([][]int, waves)
			// Each leads to the one ahead of it, which is a level below it, and to those behind it that are.
			for x := range n {
				level := x % waves
				want[level] = append(want[level], x)
				if level > 0 {
					g[x] = append(g[x], x-1)
				}
				for y := x; y < n && level > 0; y++ {
					if y%waves == level-1 {
						g[x] = append(g[x], y)
					}
				}
			}
			checkWaves(t, g, want)
			checkBehind(t, g)
			for _, said := range graphs.Said(g) {
				checkWaves(t, said, want)
			}
			turned := slices.Clone(want)
			slices.Reverse(turned)
			checkBehind(t, graphs.Turned(g))
			checkWaves(t, graphs.Turned(g), turned)
		}
	}
}

// TestGrids has nodes that lead to the next ones of two ways: the level is how far the corner is.
func TestGrids(t *testing.T) {
	for _, width := range []int{1, 2, 3, 9} {
		for _, height := range []int{1, 2, 4, 10} {
			n := width * height
			g, levels := make([][]int, n), make([]int, n)
			for x := range n {
				right, down := width-1-x%width, height-1-x/width
				levels[x] = right + down
				if right > 0 {
					g[x] = append(g[x], x+1)
				}
				if down > 0 {
					g[x] = append(g[x], x+width)
				}
			}
			check(t, g, levels)
			checkBehind(t, g)
			for _, p := range graphs.Renamings(n)[:min(n, 20)] {
				check(t, graphs.Renamed(g, p), renamed(g, levels, p))
			}
			back := slices.Clone(levels)
			slices.Reverse(back)
			check(t, graphs.Turned(g), back)
		}
	}
}

func TestNoGroupLeadsToItsWaveOrBehind(t *testing.T) {
	one := graphs.Of("4 4 4 / 0 / 3 / 2 / 1 2")
	for _, g := range [][][]int{nil, {nil}, one, graphs.Ring(1), graphs.Ring(1000), graphs.Chain(1000),
		graphs.Turned(graphs.Chain(1000)), make([][]int, 1000), graphs.Behind(one, graphs.Ring(9), one, graphs.Chain(9)),
		slices.Repeat([][]int{lists.Span(0, 99)}, 100), slices.Repeat([][]int{lists.Span(50, 150)}, 100),
		slices.Repeat([][]int{{7}}, 100), slices.Repeat([][]int{graphs.NoNodes(100)}, 100)} {
		checkBehind(t, g)
		checkBehind(t, graphs.Turned(g))
		for _, said := range graphs.Said(g) {
			checkBehind(t, said)
		}
	}
}
