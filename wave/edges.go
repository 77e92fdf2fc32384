package wave

import "warp/scc"

// edges are those that lead from one group to another one. A group is its place in what scc.Of tells.
type edges struct {
	from [][]int // of each group which others lead to it, each once
	left []int   // of each group to how many others it leads that are not done
}

// between tells the edges between the groups of g, each once, however many nodes of the one group lead to the other.
func between(g [][]int) edges {
	group, count := places(g)
	e := edges{from: make([][]int, count), left: make([]int, count)}
	found := map[[2]int]struct{}{}
	for x, row := range g {
		for _, y := range row {
			if y < 0 || y >= len(g) || group[x] == group[y] {
				continue
			}
			edge := [2]int{group[x], group[y]}
			if _, twice := found[edge]; !twice {
				found[edge] = struct{}{}
				e.add(edge)
			}
		}
	}
	return e
}

// places tells of each node of g the group in which it is, and how many groups there are.
func places(g [][]int) (group []int, count int) {
	groups := scc.Of(g)
	group = make([]int, len(g))
	for place, nodes := range groups {
		for _, x := range nodes {
			group[x] = place
		}
	}
	return group, len(groups)
}

func (e edges) add(edge [2]int) {
	from, to := edge[0], edge[1]
	e.from[to] = append(e.from[to], from)
	e.left[from]++
}

// ends tells the groups that lead to no other one.
func (e edges) ends() []int {
	var l []int
	for group, left := range e.left {
		if left == 0 {
			l = append(l, group)
		}
	}
	return l
}
