package scc

// walk goes through g, to each node once. Way is its stack: a call that calls itself for each edge would be as deep as
// the longest way through g.
type walk struct {
	g     [][]int
	way   []int          // the nodes from where the walk began to where it is, each leads to the next
	after map[[2]int]int // of each edge of the way: where the row of the node that it leaves goes on behind it
	open  []int          // the nodes that are met, and whose group may grow, in the order in which they were met
	count int            // how many nodes are met
	came  []int          // of each node how many were met when it was; 0, if it is not met
	early []int          // of each open node the least came of what it is known to reach that is open too
	first []int          // of each node whose group is whole, which of the group was met first
}

func begin(g [][]int) *walk {
	n := len(g)
	return &walk{g: g, after: map[[2]int]int{}, came: make([]int, n), early: make([]int, n), first: make([]int, n)}
}

// met tells whether the walk was at x.
func (w *walk) met(x int) bool { return w.came[x] > 0 }

// from goes to x, and from there to all that one comes to and that is not met.
func (w *walk) from(x int) {
	w.enter(x)
	next := 0
	for len(w.way) > 0 {
		x = w.way[len(w.way)-1]
		if next == len(w.g[x]) {
			next = w.leave()
			continue
		}
		y := w.g[x][next]
		next++
		if !there(w.g, y) {
			continue
		}
		if w.met(y) {
			w.early[x] = min(w.early[x], w.early[y])
			continue
		}
		w.after[[2]int{x, y}] = next
		w.enter(y)
		next = 0
	}
}

// enter puts x at the end of the way.
func (w *walk) enter(x int) {
	w.count++
	w.came[x], w.early[x] = w.count, w.count
	w.way, w.open = append(w.way, x), append(w.open, x)
}

// leave takes the last node from the way, and tells where the row of the one ahead of it goes on.
func (w *walk) leave() int {
	last := len(w.way) - 1
	x := w.way[last]
	w.way = w.way[:last]
	if w.early[x] == w.came[x] {
		w.close(x)
	}
	if last == 0 {
		return 0
	}
	to := w.way[last-1]
	w.early[to] = min(w.early[to], w.early[x])
	edge := [2]int{to, x}
	next := w.after[edge]
	delete(w.after, edge)
	return next
}

// close takes from the open nodes those from x on: they are a group, as none reaches what was met ahead of x and is
// open, and x reaches each of them.
func (w *walk) close(x int) {
	for y := -1; y != x; {
		last := len(w.open) - 1
		y = w.open[last]
		w.open = w.open[:last]
		w.first[y] = x
		w.early[y] = len(w.g) + 1 // above each came: who leads to it does not reach an earlier open node by it
	}
}

// groups tells the groups, when all nodes are met.
func (w *walk) groups() [][]int {
	var l [][]int
	number := make([]int, len(w.g)) // of each node that was met first of its group: its place in l, and 1
	for x, first := range w.first {
		if number[first] == 0 {
			l = append(l, nil)
			number[first] = len(l)
		}
		i := number[first] - 1
		l[i] = append(l[i], x)
	}
	return l
}
