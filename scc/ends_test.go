package scc

import (
	"math"
	"runtime/debug"
	"slices"
	"testing"

	"warp/graphs"
	"warp/lists"
	"warp/plays"
)

// R1: the same call tells the same; every call ends, and none panics.

func TestTheSameAgain(t *testing.T) {
	next := plays.Below(154)
	for range 300 {
		g := graphs.Spoilt(next, graphs.Drawn(next, 1+next(12), 4), 3)
		other := graphs.Spoilt(next, graphs.Drawn(next, 1+next(12), 4), 3)
		groups, to := graphs.Copy(Of(g)), ways(g)
		for range 5 {
			Of(other)
			Reach(other, next(len(other)), next(len(other)))
			checkOf(t, g, groups)
			a, b := next(len(g)), next(len(g))
			checkReach(t, g, a, b, slices.Contains(to[a], b))
			// Of a graph that is another one, but of the same rows.
			checkOf(t, graphs.Copy(g), groups)
			checkReach(t, graphs.Roomy(g, 0), a, b, slices.Contains(to[a], b))
		}
	}
}

// TestWrongInputsEnd hands in rows of numbers that are no nodes, or some.
func TestWrongInputsEnd(t *testing.T) {
	numbers := []int{math.MinInt, math.MinInt + 1, -1 << 32, math.MinInt32, -1 << 16, -256, -7, -2, -1, 0, 1, 2, 3, 4, 7,
		255, 256, 1 << 16, math.MaxInt32, 1 << 32, math.MaxInt - 1, math.MaxInt}
	for n := range 5 {
		for i, x := range numbers {
			g := slices.Repeat([][]int{{x, numbers[(i+5)%len(numbers)], x}}, n)
			checkOf(t, g, plainOf(g))
			for _, a := range numbers {
				for _, b := range numbers {
					nodes := a >= 0 && a < n && b >= 0 && b < n
					checkReach(t, g, a, b, nodes && slices.Contains(ways(g)[a], b))
				}
			}
			each(t, append(g, numbers))
		}
	}
}

// single tells n groups of one node each.
func single(n int) [][]int {
	var l [][]int
	for x := range n {
		l = append(l, []int{x})
	}
	return l
}

const (
	long    = 1 << 18   // nodes of a row that is gone through from one end to the other
	shallow = 100 << 10 // bytes of a stack that is less than one a node of such a row
)

// lowered calls f, which must do with a shallow stack: who goes deeper is stopped, and so are all tests.
func lowered(f func()) {
	defer debug.SetMaxStack(debug.SetMaxStack(shallow))
	f()
}

func TestLongRows(t *testing.T) {
	chain, ring := graphs.Chain(long), graphs.Ring(long)
	all := [][]int{lists.Span(0, long-1)}
	named := lists.Span(0, long-1)
	lists.Shuffle(plays.Below(155), named)
	mixed := graphs.Renamed(chain, named)
	lowered(func() {
		checkOf(t, chain, single(long))
		checkOf(t, graphs.Turned(chain), single(long))
		checkOf(t, mixed, single(long))
		checkOf(t, graphs.Turned(mixed), single(long))
		checkOf(t, ring, all)
		checkOf(t, graphs.Turned(ring), all)
		checkOf(t, graphs.Renamed(ring, named), all)
		for _, g := range [][][]int{chain, ring} {
			checkReach(t, g, 0, long-1, true)
			checkReach(t, g, 5, long-7, true)
			checkReach(t, graphs.Turned(g), long-1, 0, true)
		}
		checkReach(t, chain, 5, 4, false)
		checkReach(t, chain, long-1, 0, false)
		checkReach(t, ring, 5, 4, true)
		checkReach(t, ring, long-1, 0, true)
		checkReach(t, mixed, named[0], named[long-1], true)
		checkReach(t, mixed, named[long-1], named[0], false)
	})
	// Both ways are one group, unless one edge back fails.
	both := graphs.Copy(chain)
	for x := 1; x < long; x++ {
		both[x] = append(both[x], x-1)
	}
	checkOf(t, both, all)
	at := long / 3
	both[at] = []int{at + 1}
	checkOf(t, both, [][]int{lists.Span(0, at-1), lists.Span(at, long-1)})
}

// TestMany hands in so many nodes and edges that who goes through all of them for each would not end soon.
func TestMany(t *testing.T) {
	const n = 1 << 17
	all := lists.Span(0, n-1)
	star := make([][]int, n) // the first leads to all
	star[0] = all
	checkOf(t, star, single(n))
	checkOf(t, graphs.Turned(star), single(n))
	checkReach(t, star, 0, n-1, true)
	checkReach(t, star, n-1, 0, false)
	for x := range n {
		star[x] = append(slices.Clone(star[x]), 0)
	}
	checkOf(t, star, [][]int{all})
	checkReach(t, star, n-1, n-2, true)
	// A tree, and one whose leaves lead back to where it begins.
	tree := make([][]int, n)
	for x := range n {
		tree[x] = []int{2*x + 1, 2*x + 2} // behind the end there are no nodes
	}
	checkOf(t, tree, single(n))
	checkOf(t, graphs.Turned(tree), single(n))
	checkReach(t, tree, 1, n-1, true)
	checkReach(t, tree, 2, n-1, false)
	for x := n / 4; x < n; x++ {
		tree[x] = append(tree[x], 0)
	}
	checkOf(t, tree, [][]int{all})
	// Pairs, each leads to the next.
	pairs := make([][]int, n)
	var want [][]int
	for x := 0; x < n; x += 2 {
		pairs[x], pairs[x+1] = []int{x + 1, x + 2}, []int{x + 2, x, x + 3}
		want = append(want, []int{x, x + 1})
	}
	checkOf(t, pairs, want)
	checkOf(t, graphs.Turned(pairs), want)
}

// TestManyEdges has each of some nodes lead to all, or to all behind it, and an edge that is there often.
func TestManyEdges(t *testing.T) {
	const n = 1000
	all := lists.Span(0, n-1)
	full := slices.Repeat([][]int{all}, n)
	checkOf(t, full, [][]int{all})
	checkReach(t, full, 3, n-1, true)
	var rising [][]int // each leads to all behind it
	for x := range n {
		rising = append(rising, all[x:])
	}
	checkOf(t, rising, single(n))
	checkOf(t, graphs.Turned(rising), single(n))
	checkReach(t, rising, 1, 0, false)
	rising[n-1] = []int{0}
	checkOf(t, rising, [][]int{all})
	rising[n-1] = []int{1}
	checkOf(t, rising, [][]int{{0}, all[1:]})
	// One edge that is there often, and numbers that are no nodes.
	often := [][]int{lists.Of(1<<20, 1), nil, lists.Of(1<<20, 2), slices.Repeat([]int{-1, 4, 0, 3}, 1<<18)}
	checkOf(t, often, single(4))
	checkReach(t, often, 3, 1, true)
	checkReach(t, often, 1, 3, false)
	checkOf(t, make([][]int, 1<<20), single(1<<20))
}
