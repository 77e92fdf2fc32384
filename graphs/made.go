package graphs

import (
	"slices"

	"warp/lists"
)

// Chain tells n nodes, each of which leads to the next.
func Chain(n int) [][]int {
	g := make([][]int, n)
	for x := 1; x < n; x++ {
		g[x-1] = []int{x}
	}
	return g
}

// Ring tells n nodes, each of which leads to the next, and the last to the first.
func Ring(n int) [][]int {
	g := Chain(n)
	g[n-1] = []int{0}
	return g
}

// Behind tells one graph of those, the nodes of each behind those of the ones ahead of it.
func Behind(all ...[][]int) [][]int {
	var g [][]int
	for _, one := range all {
		n := len(g)
		for _, row := range one {
			var l []int
			for _, y := range row {
				l = append(l, y+n)
			}
			g = append(g, l)
		}
	}
	return g
}

// Turned tells g with each edge the other way round; what is no node is left out.
func Turned(g [][]int) [][]int {
	back := make([][]int, len(g))
	for x, row := range g {
		for _, y := range row {
			if y >= 0 && y < len(g) {
				back[y] = append(back[y], x)
			}
		}
	}
	return back
}

// Renamed tells g with other names: node x is p[x]. What is no node stays.
func Renamed(g [][]int, p []int) [][]int {
	named := make([][]int, len(g))
	for x, row := range g {
		l := slices.Clone(row)
		for i, y := range l {
			if y >= 0 && y < len(g) {
				l[i] = p[y]
			}
		}
		named[p[x]] = l
	}
	return named
}

// Renamings tells ways to name n nodes: all of few, some of many.
func Renamings(n int) [][]int {
	names := lists.Span(0, n-1)
	var all [][]int
	if n <= 4 {
		lists.Orders(names, func(l []int) { all = append(all, l) })
		return all
	}
	for i := range n {
		l := slices.Concat(names[i:], names[:i])
		all = append(all, slices.Clone(l))
		slices.Reverse(l)
		all = append(all, slices.Clone(l))
		for x := range n {
			l[x] = (x*(i+1) + i) % n
		}
		if made := slices.Compact(slices.Sorted(slices.Values(l))); len(made) == n {
			all = append(all, l)
		}
	}
	return all
}

// Said tells g said in other ways: the same nodes lead to the same ones, not counted those that lead to themselves.
func Said(g [][]int) [][][]int {
	none := NoNodes(len(g))
	change := func(f func(x int, row []int) []int) [][]int { return with(g, f) }
	return [][][]int{
		change(func(_ int, row []int) []int {
			l := slices.Clone(row)
			slices.Reverse(l)
			return l
		}),
		change(func(_ int, row []int) []int { return slices.Repeat(row, 2) }),
		change(func(_ int, row []int) []int { return slices.Repeat(row, 3) }),
		change(func(x int, row []int) []int { return append(slices.Clone(row), x) }),
		change(func(x int, row []int) []int { return append([]int{x}, row...) }),
		change(func(_ int, row []int) []int { return append(slices.Clone(row), none...) }),
		change(func(_ int, row []int) []int { return append(slices.Clone(none), row...) }),
		change(func(x int, row []int) []int { return between(row, none[x%len(none)]) }),
		change(func(x int, row []int) []int { return between(row, x) }),
	}
}

// between tells l with x ahead of each of its numbers.
func between(l []int, x int) []int {
	var made []int
	for _, y := range l {
		made = append(made, x, y)
	}
	return made
}

// Drawn tells a graph of n nodes, each of which leads to fewer than most; next tells numbers from 0 to below its
// argument.
func Drawn(next func(int) int, n, most int) [][]int {
	g := make([][]int, n)
	for x := range g {
		for range next(most) {
			g[x] = append(g[x], next(n))
		}
	}
	return g
}

// Spoilt tells g with so many numbers put somewhere that are no nodes.
func Spoilt(next func(int) int, g [][]int, times int) [][]int {
	g = Copy(g)
	none := NoNodes(len(g))
	for range times {
		if len(g) == 0 {
			break
		}
		x := next(len(g))
		g[x] = slices.Insert(g[x], next(len(g[x])+1), none[next(len(none))])
	}
	return g
}

// Each calls f with each graph of n nodes, where each edge is there or not, those from a node to itself too.
func Each(n int, f func([][]int)) {
	for bits := range 1 << (n * n) {
		g := make([][]int, n)
		for edge := range n * n {
			if bits>>edge&1 == 1 {
				g[edge/n] = append(g[edge/n], edge%n)
			}
		}
		f(g)
	}
}
