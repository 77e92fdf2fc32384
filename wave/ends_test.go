package wave

import (
	"math"
	"runtime/debug"
	"slices"
	"testing"

	"warp/graphs"
	"warp/lists"
	"warp/plays"
)

// R1: the same call tells the same; every call ends, and none panics.

func TestTheSameAgain(t *testing.T) {
	next := plays.Below(164)
	for range 300 {
		g, other := drawn(next), drawn(next)
		levels := slices.Clone(Levels(g))
		for range 5 {
			Levels(other)
			Waves(other)
			check(t, g, levels)
			// Of a graph that is another one, but of the same rows.
			check(t, graphs.Copy(g), levels)
			check(t, graphs.Roomy(g, 0), levels)
		}
	}
}

// TestManyTimes calls often enough that it would be seen if the order in which a map is gone through were.
func TestManyTimes(t *testing.T) {
	g := graphs.Of("1 2 3 4 5 / 6 7 / 6 8 / 9 6 / 9 7 8 / 6 / 10 / 10 / 10 11 / 11 / - / 12 / -")
	levels := plainLevels(g)
	for range 500 {
		check(t, g, levels)
	}
}

// TestWrongInputsEnd hands in rows of numbers that are no nodes, or some.
func TestWrongInputsEnd(t *testing.T) {
	numbers := []int{math.MinInt, math.MinInt + 1, -1 << 32, math.MinInt32, -1 << 16, -256, -7, -2, -1, 0, 1, 2, 3, 4, 7,
		255, 256, 1 << 16, math.MaxInt32, 1 << 32, math.MaxInt - 1, math.MaxInt}
	for n := range 5 {
		for i, x := range numbers {
			g := slices.Repeat([][]int{{x, numbers[(i+5)%len(numbers)], x}}, n)
			checkPlain(t, g)
			checkPlain(t, append(g, numbers))
			checkPlain(t, append([][]int{nil, numbers[:i], {x}}, g...))
		}
	}
}

const (
	long    = 1 << 17   // groups of a row, each of which leads to the next
	shallow = 100 << 10 // bytes of a stack that is less than one a group of such a row
)

// lowered calls f, which must do with a shallow stack: who goes deeper is stopped, and so are all tests.
func lowered(f func()) {
	defer debug.SetMaxStack(debug.SetMaxStack(shallow))
	f()
}

func TestLongRows(t *testing.T) {
	chain := graphs.Chain(long)
	up := lists.Span(0, long-1)
	down := slices.Clone(up)
	slices.Reverse(down)
	names := slices.Clone(up)
	lists.Shuffle(plays.Below(165), names)
	var pairs [][]int // groups of two nodes, each leads to the next
	for x := 0; x < long; x += 2 {
		pairs = append(pairs, []int{x + 1}, []int{x, x + 2})
	}
	lowered(func() {
		checkLevels(t, chain, down)
		checkWaves(t, chain, alone(down))
		checkLevels(t, graphs.Turned(chain), up)
		checkWaves(t, graphs.Turned(chain), alone(up))
		check(t, graphs.Renamed(chain, names), renamed(chain, down, names))
		check(t, graphs.Renamed(graphs.Turned(chain), names), renamed(graphs.Turned(chain), up, names))
		check(t, graphs.Ring(long), []int{0})
		check(t, pairs, down[long/2:])
		check(t, graphs.Turned(pairs), up[:long/2])
		check(t, graphs.Behind(graphs.Ring(long), graphs.Chain(2)), row("0 1 0"))
	})
}

// TestMany hands in so many nodes and edges that who goes through all of them for each would not end soon.
func TestMany(t *testing.T) {
	const n = 1 << 16
	check(t, make([][]int, n), make([]int, n))
	star := make([][]int, n) // the first leads to all
	star[0] = lists.Span(0, n-1)
	check(t, star, append([]int{1}, make([]int, n-1)...))
	check(t, graphs.Turned(star), append([]int{0}, lists.Of(n-1, 1)...))
	// A tree: each leads to two, and behind the end there are no nodes.
	tree, deep := make([][]int, n), make([]int, n)
	for x := range n {
		tree[x] = []int{2*x + 1, 2*x + 2}
	}
	for x := n - 1; x > 0; x-- {
		deep[(x-1)/2] = max(deep[(x-1)/2], deep[x]+1)
	}
	check(t, tree, deep)
	deep[0] = 0
	for x := 1; x < n; x++ {
		deep[x] = deep[(x-1)/2] + 1
	}
	check(t, graphs.Turned(tree), deep)
	// Diamonds: there are 2^(n/3) ways from the first to the last.
	diamonds, levels := make([][]int, n), make([]int, n)
	for x := 0; x+3 < n; x += 3 {
		diamonds[x], diamonds[x+1], diamonds[x+2] = []int{x + 1, x + 2}, []int{x + 3}, []int{x + 3}
	}
	for x := n - 4; x >= 0; x -= 3 {
		levels[x+2], levels[x+1], levels[x] = levels[x+3]+1, levels[x+3]+1, levels[x+3]+2
	}
	check(t, diamonds, levels)
	slices.Reverse(levels)
	back := lists.Span(0, n-1)
	slices.Reverse(back)
	check(t, graphs.Renamed(diamonds, back), levels)
}

// TestManyEdges has each of some nodes lead to all, or to all behind it, and an edge that is there often.
func TestManyEdges(t *testing.T) {
	const n = 500
	all := lists.Span(0, n-1)
	down := slices.Clone(all)
	slices.Reverse(down)
	check(t, slices.Repeat([][]int{all}, n), []int{0})
	var rising [][]int // each leads to all behind it
	for x := range n {
		rising = append(rising, all[x:])
	}
	check(t, rising, down)
	check(t, graphs.Turned(rising), all)
	rising[n-1] = []int{1}
	check(t, rising, []int{1, 0})
	rising[n-1] = []int{n / 2}
	check(t, rising, down[n/2-1:])
	// One edge that is there often, of one node and of a group, and numbers that are no nodes.
	often := [][]int{lists.Of(1<<20, 1), nil, lists.Of(1<<20, 2), slices.Repeat([]int{-1, 4, 0, 3}, 1<<18)}
	check(t, often, row("1 0 0 2"))
	ring := graphs.Behind(graphs.Ring(n), [][]int{nil})
	for x := range n {
		ring[x] = append(ring[x], slices.Repeat([]int{n, x, n + 1}, 1000)...)
	}
	check(t, ring, row("1 0"))
	check(t, graphs.Turned(ring), row("0 1"))
}
