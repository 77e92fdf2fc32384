package cuf

import (
	"cmp"
	"math"
	"slices"
	"testing"

	"warp/api"
	"warp/lists"
	"warp/plays"
)

// scribble writes into l, and into its spare room.
func scribble(l []int) {
	l = l[:cap(l)]
	for i := range l {
		l[i] = -77
	}
}

// op tells an operation.
func op(kind, x, y int) api.Op {
	return api.Op{Kind: kind, X: x, Y: y}
}

// begun tells the task of an operation that may begin.
func begun(t *testing.T, o api.Op, n int) api.Task {
	t.Helper()
	x, ok := Begin(o, n)
	if !ok {
		t.Fatalf("Begin(%v, %d) is false", o, n)
	}
	return x
}

// rank tells how many elements each one has below it. It is what the tests hold "below" against.
func rank(prio []int) []int {
	order := lists.Span(0, len(prio)-1)
	slices.SortStableFunc(order, func(x, y int) int { return cmp.Compare(prio[x], prio[y]) })
	r := make([]int, len(prio))
	for i, x := range order {
		r[x] = i
	}
	return r
}

// forests tells all cells that may be of elements with those priorities.
func forests(prio []int) [][]int {
	r := rank(prio)
	var l [][]int
	lists.Each(len(prio), lists.Span(0, len(prio)-1), func(up []int) {
		for x, above := range up {
			if above != x && r[above] < r[x] {
				return
			}
		}
		l = append(l, up)
	})
	return l
}

// rootsOf tells the root of each element, by going up once for each one that there is.
func rootsOf(up []int) []int {
	l := lists.Span(0, len(up)-1)
	for range up {
		for x := range l {
			l[x] = up[l[x]]
		}
	}
	return l
}

// plainStep is a step as chapter 4 tells it, one sentence behind the other: up is changed. It is what the tests hold
// Step against.
func plainStep(up, prio []int, t *api.Task) {
	const u, v = 1, 2
	ended := func(which int) {
		switch {
		case which == u && t.Op.Kind == api.OFind:
			t.Is, t.Result = true, t.U
		case which == u:
			t.Step = 4
		case t.U == t.V && t.Op.Kind == api.OSame:
			t.Is, t.Result = true, 1
		case t.U == t.V && t.Op.Kind == api.OUnite:
			t.Is, t.Result = true, 0
		case t.Op.Kind == api.OSame:
			t.Step = 7
		case t.Op.Kind == api.OUnite:
			t.Step = 8
		}
	}
	if t.Is {
		return
	}
	switch t.Step {
	case 1:
		if t.W = up[t.U]; t.W == t.U {
			ended(u)
		} else {
			t.Step = 2
		}
	case 2:
		if t.R = up[t.W]; t.R == t.W {
			t.U = t.W
			ended(u)
		} else {
			t.Step = 3
		}
	case 3:
		if up[t.U] == t.W {
			up[t.U] = t.R
		}
		t.U, t.Step = t.W, 1
	case 4:
		if t.W = up[t.V]; t.W == t.V {
			ended(v)
		} else {
			t.Step = 5
		}
	case 5:
		if t.R = up[t.W]; t.R == t.W {
			t.V = t.W
			ended(v)
		} else {
			t.Step = 6
		}
	case 6:
		if up[t.V] == t.W {
			up[t.V] = t.R
		}
		t.V, t.Step = t.W, 4
	case 7:
		if t.W = up[t.U]; t.W == t.U {
			t.Is, t.Result = true, 0
		} else {
			t.Step = 1
		}
	case 8:
		low, high := t.U, t.V
		if r := rank(prio); r[low] > r[high] {
			low, high = high, low
		}
		if up[low] == low {
			up[low] = high
			t.Is, t.Result = true, 1
		} else {
			t.Step = 1
		}
	}
}

// Promise 4.1, May.

func TestMay(t *testing.T) {
	for _, c := range []struct {
		up, prio []int
		want     bool
	}{
		{nil, nil, true}, {[]int{}, nil, true}, {nil, []int{}, true}, // none of them
		{[]int{0}, []int{0}, true}, {[]int{0}, []int{-5}, true}, {[]int{0}, []int{math.MinInt}, true},
		{[]int{0, 1, 2}, []int{3, 3, 3}, true}, {[]int{0, 1, 2}, []int{9, 1, 5}, true},
		// A greater priority.
		{[]int{1, 1}, []int{1, 2}, true}, {[]int{0, 0}, []int{2, 1}, true}, {[]int{2, 2, 2, 1}, []int{0, 5, 9, 3}, true},
		{[]int{0, 0}, []int{-1, -2}, true}, {[]int{1, 1}, []int{-2, -1}, true}, {[]int{1, 1}, []int{-1, 0}, true},
		{[]int{1, 1}, []int{math.MinInt, math.MaxInt}, true}, {[]int{0, 0}, []int{math.MaxInt, math.MinInt}, true},
		// A lesser one.
		{[]int{1, 1}, []int{2, 1}, false}, {[]int{0, 0}, []int{1, 2}, false}, {[]int{2, 2, 2, 1}, []int{0, 3, 9, 5}, false},
		{[]int{1, 1}, []int{-1, -2}, false}, {[]int{0, 0}, []int{-2, -1}, false}, {[]int{0, 0}, []int{-1, 0}, false},
		{[]int{1, 1}, []int{math.MaxInt, math.MinInt}, false}, {[]int{0, 0}, []int{math.MinInt, math.MaxInt}, false},
		// The same, and a greater or a lesser number.
		{[]int{1, 1}, []int{1, 1}, true}, {[]int{0, 0}, []int{1, 1}, false}, {[]int{1, 2, 2}, []int{-4, -4, -4}, true},
		{[]int{0, 1, 1}, []int{-4, -4, -4}, false}, {[]int{2, 0, 2}, []int{1, 1, 1}, false},
		// A way that leads round.
		{[]int{1, 0}, []int{1, 1}, false}, {[]int{1, 0}, []int{1, 2}, false}, {[]int{1, 2, 0}, []int{1, 2, 3}, false},
		// No element, at the first place, in the middle, at the last one.
		{[]int{-1}, []int{1}, false}, {[]int{1}, []int{1}, false}, {[]int{math.MinInt}, []int{1}, false},
		{[]int{math.MaxInt}, []int{1}, false}, {[]int{-1, 1, 2}, []int{1, 2, 3}, false}, {[]int{3, 1, 2}, []int{1, 2, 3}, false},
		{[]int{0, -1, 2}, []int{1, 2, 3}, false}, {[]int{0, 3, 2}, []int{1, 2, 3}, false}, {[]int{0, 1, -1}, []int{1, 2, 3}, false},
		{[]int{0, 1, 3}, []int{1, 2, 3}, false}, {[]int{0, 1, -3}, []int{1, 2, 3}, false}, {[]int{0, 1, 1 << 32}, []int{1, 2, 3}, false},
		// Not as long as one another.
		{[]int{0}, nil, false}, {nil, []int{0}, false}, {[]int{0, 1}, []int{1}, false}, {[]int{0}, []int{1, 2}, false},
		{[]int{0, 1, 2}, []int{1, 2}, false}, {[]int{0, 1}, []int{1, 2, 3}, false},
	} {
		if got := May(c.up, c.prio); got != c.want {
			t.Errorf("May(%v, %v) = %v", c.up, c.prio, got)
		}
	}
}

func TestMayOfAllSmallCells(t *testing.T) {
	for n := range 4 {
		lists.Each(n, []int{-3, 0, 4}, func(prio []int) {
			want := forests(prio)
			var got [][]int
			lists.Each(n, lists.Span(-2, n+1), func(up []int) {
				if May(up, prio) {
					got = append(got, up)
				}
			})
			if !slices.EqualFunc(got, want, slices.Equal[[]int]) {
				t.Errorf("with %v these may be: %v, want %v", prio, got, want)
			}
		})
	}
}

func TestMayOfTheMost(t *testing.T) {
	for _, n := range []int{1<<16 - 1, 1 << 16, 1<<16 + 1, 1 << 17} {
		prio := lists.Of(n, -1)
		for _, up := range [][]int{lists.Span(0, n-1), lists.Of(n, n-1), append(lists.Span(1, n-1), n-1)} {
			if got := May(up, prio); got != (n <= 1<<16) {
				t.Errorf("May of %d = %v", n, got)
			}
			up[n-1] = 0
			if May(up, prio) {
				t.Errorf("May of %d, the last one under the first one, is true", n)
			}
		}
	}
}

func TestMayWithSpareRoom(t *testing.T) {
	up, prio := lists.Roomy([]int{1, 1}, 7), lists.Roomy([]int{1, 2}, 7)
	if !May(up, prio) || May(up[:1], prio) || May(up, prio[:1]) || May(up[:1], prio[:1]) || May([]int{0, 2}, prio) {
		t.Error("spare room is looked at")
	}
	if Root(up, 2) != -1 || Root(up[:1], 0) != -1 || Root(lists.Roomy(nil, 7), 0) != -1 {
		t.Error("spare room is there")
	}
}

// Promise 4.1, Root.

func TestRoot(t *testing.T) {
	for _, c := range []struct {
		up, want []int
	}{
		{[]int{0}, []int{0}}, {[]int{0, 1}, []int{0, 1}}, {[]int{1, 1}, []int{1, 1}}, {[]int{0, 0}, []int{0, 0}},
		{[]int{2, 2, 2, 1, 4}, []int{2, 2, 2, 2, 4}}, {[]int{1, 2, 3, 4, 4}, lists.Of(5, 4)}, {[]int{0, 0, 1, 2, 3}, lists.Of(5, 0)},
		{[]int{3, 0, 4, 3, 4, 2, 1}, []int{3, 3, 4, 3, 4, 4, 3}},
	} {
		for x, want := range c.want {
			if got := Root(c.up, x); got != want {
				t.Errorf("Root(%v, %d) = %d, want %d", c.up, x, got, want)
			}
		}
	}
	for n := range 6 {
		for _, prio := range [][]int{lists.Of(n, 1), lists.Of(n, -1)} {
			for i := range n / 2 {
				prio[i] = i - 2
			}
			for _, up := range forests(prio) {
				for x, want := range rootsOf(up) {
					if got := Root(up, x); got != want {
						t.Errorf("Root(%v, %d) = %d, want %d", up, x, got, want)
					}
				}
			}
		}
	}
}

// nowhere are numbers that are no element of n.
func nowhere(n int) []int {
	return []int{-1, -2, -n - 1, math.MinInt, n, n + 1, 2*n + 1, 1 << 16, 1 << 32, 1<<32 + 1, math.MaxInt}
}

// Of cells that may not be, too, and of none.
func TestRootOfNoElement(t *testing.T) {
	for _, up := range [][]int{
		nil, {}, {0}, {0, 1}, {1, 1}, {0, 0}, {2, 2, 2, 1, 4}, {1, 0}, {-1}, {-1, -1, -1}, {7, 8, -9}, {1}, {2, 2},
		{math.MinInt, math.MaxInt},
	} {
		for _, x := range nowhere(len(up)) {
			if got := Root(up, x); got != -1 {
				t.Errorf("Root(%v, %d) = %d", up, x, got)
			}
		}
	}
	for _, x := range []int{-1, 1 << 16, math.MaxInt} {
		if got := Root(lists.Span(0, 1<<16-1), x); got != -1 {
			t.Errorf("Root of %d of the most = %d", x, got)
		}
	}
}

func TestRootOfALongWay(t *testing.T) {
	for _, n := range []int{2, 3, 100, 1<<16 - 1, 1 << 16} {
		rise, fall := append(lists.Span(1, n-1), n-1), append([]int{0}, lists.Span(0, n-2)...)
		for _, x := range []int{0, 1, n / 2, n - 2, n - 1} {
			if got := Root(rise, x); got != n-1 {
				t.Errorf("Root of %d, rising to %d, = %d", x, n-1, got)
			}
			if got := Root(fall, x); got != 0 {
				t.Errorf("Root of %d, falling from %d, = %d", x, n-1, got)
			}
		}
	}
}

// Promise 4.2.

func TestBegin(t *testing.T) {
	for _, c := range []struct {
		op api.Op
		n  int
	}{
		{op(api.OFind, 0, 0), 1}, {op(api.OFind, 2, 1), 3}, {op(api.OSame, 0, 0), 1}, {op(api.OSame, 0, 2), 3},
		{op(api.OSame, 2, 0), 3}, {op(api.OUnite, 2, 2), 3}, {op(api.OUnite, 1, 2), 3}, {op(api.OUnite, 0, 0), 1},
		{op(api.OUnite, 1<<16-1, 0), 1 << 16}, {op(api.OSame, 7, 1<<16-1), 1 << 16}, {op(api.OFind, 1<<16-1, 0), 1 << 16},
		// Y of OFind is not asked.
		{op(api.OFind, 2, 3), 3}, {op(api.OFind, 2, 99), 3}, {op(api.OFind, 0, -1), 3}, {op(api.OFind, 0, math.MinInt), 1},
		{op(api.OFind, 0, math.MaxInt), 1},
	} {
		got, ok := Begin(c.op, c.n)
		want := api.Task{Op: c.op, Step: 1, U: c.op.X, V: c.op.Y}
		if !ok || got != want {
			t.Errorf("Begin(%v, %d) = %v, %v", c.op, c.n, got, ok)
		}
	}
}

func TestBeginNot(t *testing.T) {
	refused := func(o api.Op, n int) {
		t.Helper()
		if got, ok := Begin(o, n); ok || got != (api.Task{}) {
			t.Errorf("Begin(%v, %d) = %v, %v", o, n, got, ok)
		}
	}
	for _, kind := range []int{0, -1, 4, 5, -2, -3, math.MinInt, math.MaxInt, 1<<32 + 1} {
		refused(op(kind, 0, 0), 1)
		refused(op(kind, 1, 2), 3)
	}
	for _, n := range []int{1, 2, 3, 10} {
		for _, x := range nowhere(n) {
			if x >= 0 && x < n {
				continue
			}
			refused(op(api.OFind, x, 0), n)
			for _, kind := range []int{api.OSame, api.OUnite} {
				refused(op(kind, x, 0), n)
				refused(op(kind, n-1, x), n)
				refused(op(kind, x, x), n)
			}
		}
	}
	// Of no elements.
	for _, n := range []int{0, -1, -2, -1 << 16, math.MinInt} {
		for kind := range 5 {
			for _, x := range []int{0, 1, -1, -2, n, n - 1, n + 1} {
				refused(op(kind, x, x), n)
				refused(op(kind, x, 0), n)
				refused(op(kind, 0, x), n)
			}
		}
	}
}

// Promise 4.3, each of the steps.

// stepCase is one step: the cells and the task, ahead of it and behind it.
type stepCase struct {
	what string
	up   []int
	t    api.Task
	then []int
	want api.Task
}

// checkSteps makes each of the steps.
func checkSteps(t *testing.T, prio []int, cases []stepCase) {
	t.Helper()
	for _, c := range cases {
		was := slices.Clone(c.up)
		up, x := Step(c.up, prio, c.t)
		if !slices.Equal(up, c.then) || x != c.want {
			t.Errorf("%s: Step tells %v, %+v; want %v, %+v", c.what, up, x, c.then, c.want)
		}
		if !slices.Equal(c.up, was) {
			t.Errorf("%s: what was handed in is now %v", c.what, c.up)
		}
	}
}

// Operations that the steps are of: the fields that are not named stay, W and R ahead of the step are such.
var (
	finds  = op(api.OFind, 0, 3)
	sames  = op(api.OSame, 0, 3)
	unites = op(api.OUnite, 0, 3)
)

// at tells a task of o at a step.
func at(o api.Op, step, u, v, w, r int) api.Task {
	return api.Task{Op: o, Step: step, U: u, V: v, W: w, R: r}
}

// told tells x done, with that result.
func told(x api.Task, result int) api.Task {
	x.Is, x.Result = true, result
	return x
}

func TestStepOne(t *testing.T) {
	up := []int{1, 2, 2, 4, 4, 5}
	checkSteps(t, lists.Span(1, 6), []stepCase{
		{"no root", up, at(finds, 1, 0, 3, 5, 4), up, at(finds, 2, 0, 3, 1, 4)},
		{"no root", up, at(sames, 1, 1, 3, 5, 4), up, at(sames, 2, 1, 3, 2, 4)},
		{"no root", up, at(unites, 1, 3, 3, 0, 0), up, at(unites, 2, 3, 3, 4, 0)},
		{"a root", up, at(finds, 1, 2, 3, 5, 4), up, told(at(finds, 1, 2, 3, 2, 4), 2)},
		{"a root", up, at(sames, 1, 4, 4, 5, 3), up, at(sames, 4, 4, 4, 4, 3)},
		{"a root", up, at(unites, 1, 5, 3, 0, 0), up, at(unites, 4, 5, 3, 5, 0)},
	})
}

func TestStepTwo(t *testing.T) {
	up := []int{1, 2, 2, 4, 4, 5}
	checkSteps(t, lists.Span(1, 6), []stepCase{
		{"no root", up, at(finds, 2, 0, 3, 1, 5), up, at(finds, 3, 0, 3, 1, 2)},
		{"no root", up, at(unites, 2, 0, 3, 3, 0), up, at(unites, 3, 0, 3, 3, 4)},
		{"a root", up, at(finds, 2, 1, 3, 2, 5), up, told(at(finds, 2, 2, 3, 2, 2), 2)},
		{"a root", up, at(sames, 2, 1, 2, 2, 0), up, at(sames, 4, 2, 2, 2, 2)},
		{"a root", up, at(unites, 2, 1, 3, 2, 5), up, at(unites, 4, 2, 3, 2, 2)},
		// It is up of W that counts: U is under another one meanwhile.
		{"a root", up, at(finds, 2, 0, 3, 4, 0), up, told(at(finds, 2, 4, 3, 4, 4), 4)},
	})
}

func TestStepThree(t *testing.T) {
	for _, o := range []api.Op{finds, sames, unites} {
		was := at(o, 3, 0, 3, 1, 2)
		then := at(o, 1, 1, 3, 1, 2)
		checkSteps(t, lists.Span(1, 6), []stepCase{
			{"W yet", []int{1, 2, 2, 4, 4, 5}, was, []int{2, 2, 2, 4, 4, 5}, then},
			{"W yet, R no root", []int{1, 2, 3, 4, 4, 5}, was, []int{2, 2, 3, 4, 4, 5}, then},
			{"W yet, W elsewhere", []int{1, 5, 2, 4, 4, 5}, was, []int{2, 5, 2, 4, 4, 5}, then},
			{"another one", []int{3, 2, 2, 4, 4, 5}, was, []int{3, 2, 2, 4, 4, 5}, then},
			{"R already", []int{2, 2, 2, 4, 4, 5}, was, []int{2, 2, 2, 4, 4, 5}, then},
		})
	}
}

func TestStepFour(t *testing.T) {
	up := []int{1, 2, 2, 4, 4, 5}
	checkSteps(t, lists.Span(1, 6), []stepCase{
		{"no root", up, at(sames, 4, 2, 0, 5, 4), up, at(sames, 5, 2, 0, 1, 4)},
		{"no root", up, at(unites, 4, 0, 3, 0, 0), up, at(unites, 5, 0, 3, 4, 0)},
		{"a root, another", up, at(sames, 4, 2, 4, 5, 3), up, at(sames, 7, 2, 4, 4, 3)},
		{"a root, another", up, at(unites, 4, 2, 4, 5, 3), up, at(unites, 8, 2, 4, 4, 3)},
		{"a root, the same", up, at(sames, 4, 4, 4, 5, 3), up, told(at(sames, 4, 4, 4, 4, 3), 1)},
		{"a root, the same", up, at(unites, 4, 4, 4, 5, 3), up, told(at(unites, 4, 4, 4, 4, 3), 0)},
		// U was a root, and is none any more: it is another one than V yet.
		{"a root above U", up, at(sames, 4, 1, 2, 0, 0), up, at(sames, 7, 1, 2, 2, 0)},
		{"a root above U", up, at(unites, 4, 1, 2, 0, 0), up, at(unites, 8, 1, 2, 2, 0)},
	})
}

func TestStepFive(t *testing.T) {
	up := []int{1, 2, 2, 4, 4, 5}
	checkSteps(t, lists.Span(1, 6), []stepCase{
		{"no root", up, at(sames, 5, 4, 0, 1, 5), up, at(sames, 6, 4, 0, 1, 2)},
		{"no root", up, at(unites, 5, 1, 0, 1, 0), up, at(unites, 6, 1, 0, 1, 2)},
		{"a root, another", up, at(sames, 5, 4, 1, 2, 5), up, at(sames, 7, 4, 2, 2, 2)},
		{"a root, another", up, at(unites, 5, 4, 1, 2, 0), up, at(unites, 8, 4, 2, 2, 2)},
		{"a root, the same", up, at(sames, 5, 2, 1, 2, 0), up, told(at(sames, 5, 2, 2, 2, 2), 1)},
		{"a root, the same", up, at(unites, 5, 2, 1, 2, 0), up, told(at(unites, 5, 2, 2, 2, 2), 0)},
		{"a root, V was U", up, at(sames, 5, 1, 1, 2, 0), up, at(sames, 7, 1, 2, 2, 2)},
	})
}

func TestStepSix(t *testing.T) {
	for _, o := range []api.Op{sames, unites} {
		was := at(o, 6, 4, 0, 1, 2)
		then := at(o, 4, 4, 1, 1, 2)
		checkSteps(t, lists.Span(1, 6), []stepCase{
			{"W yet", []int{1, 2, 2, 4, 4, 5}, was, []int{2, 2, 2, 4, 4, 5}, then},
			{"W yet, R no root", []int{1, 2, 3, 4, 4, 5}, was, []int{2, 2, 3, 4, 4, 5}, then},
			{"another one", []int{3, 2, 2, 4, 4, 5}, was, []int{3, 2, 2, 4, 4, 5}, then},
			{"R already", []int{2, 2, 2, 4, 4, 5}, was, []int{2, 2, 2, 4, 4, 5}, then},
			// U has the same cell: what stands in V counts.
			{"U is W", []int{1, 1, 2, 4, 4, 5}, at(o, 6, 1, 0, 1, 2), []int{2, 1, 2, 4, 4, 5}, at(o, 4, 1, 1, 1, 2)},
		})
	}
}

// The question is told no, or asked again, when a root that was found is none any more.
func TestStepSeven(t *testing.T) {
	up := []int{1, 1, 2, 4, 4, 5}
	checkSteps(t, lists.Span(1, 6), []stepCase{
		{"a root", up, at(sames, 7, 1, 4, 4, 5), up, told(at(sames, 7, 1, 4, 1, 5), 0)},
		{"no root", up, at(sames, 7, 0, 4, 4, 5), up, at(sames, 1, 0, 4, 1, 5)},
		{"no root, under V", up, at(sames, 7, 3, 4, 4, 5), up, at(sames, 1, 3, 4, 4, 5)},
		// V is not looked at.
		{"a root, V none", up, at(sames, 7, 1, 0, 0, 0), up, told(at(sames, 7, 1, 0, 1, 0), 0)},
		{"no root, V none", up, at(sames, 7, 0, 3, 4, 0), up, at(sames, 1, 0, 3, 1, 0)},
	})
}

func TestStepEight(t *testing.T) {
	task := func(u, v int) api.Task { return at(unites, 8, u, v, v, 5) }
	made := func(u, v int) api.Task { return told(at(unites, 8, u, v, v, 5), 1) }
	again := func(u, v int) api.Task { return at(unites, 1, u, v, v, 5) }
	roots := lists.Span(0, 3)
	for _, prio := range [][]int{
		{1, 2, 3, 4}, {5, 5, 5, 5}, {-2, -1, 0, 1}, {-1, -1, -1, -1}, {math.MinInt, 0, 0, math.MaxInt},
	} {
		checkSteps(t, prio, []stepCase{
			{"U below V", roots, task(0, 2), []int{2, 1, 2, 3}, made(0, 2)},
			{"V below U", roots, task(2, 0), []int{2, 1, 2, 3}, made(2, 0)},
			{"U below V", roots, task(1, 2), []int{0, 2, 2, 3}, made(1, 2)},
			{"V below U", roots, task(2, 1), []int{0, 2, 2, 3}, made(2, 1)},
			{"U another one", []int{3, 1, 2, 3}, task(0, 2), []int{3, 1, 2, 3}, again(0, 2)},
			{"V another one", []int{3, 1, 2, 3}, task(2, 0), []int{3, 1, 2, 3}, again(2, 0)},
			{"U under V", []int{2, 1, 2, 3}, task(0, 2), []int{2, 1, 2, 3}, again(0, 2)},
			{"V under U", []int{2, 1, 2, 3}, task(2, 0), []int{2, 1, 2, 3}, again(2, 0)},
			// The one that stays a root is not looked at: the other one is changed.
			{"V no root", []int{0, 1, 3, 3}, task(0, 2), []int{2, 1, 3, 3}, made(0, 2)},
			{"U no root", []int{0, 1, 3, 3}, task(2, 0), []int{2, 1, 3, 3}, made(2, 0)},
		})
	}
	for _, prio := range [][]int{
		{4, 3, 2, 1}, {1, 0, 0, -1}, {-1, -2, -3, -4}, {math.MaxInt, 7, 7, math.MinInt}, {9, 1, 1, 1},
	} {
		checkSteps(t, prio, []stepCase{
			{"V below U", roots, task(0, 3), []int{0, 1, 2, 0}, made(0, 3)},
			{"U below V", roots, task(3, 0), []int{0, 1, 2, 0}, made(3, 0)},
			{"V another one", []int{0, 1, 2, 1}, task(0, 3), []int{0, 1, 2, 1}, again(0, 3)},
			{"U another one", []int{0, 1, 2, 1}, task(3, 0), []int{0, 1, 2, 1}, again(3, 0)},
		})
	}
}

// Promise 4.3, whole operations.

// finish makes steps till the task is done: the numbers of the steps, the cells, and the task.
func finish(t *testing.T, up, prio []int, x api.Task) ([]int, []int, api.Task) {
	t.Helper()
	var steps []int
	for !x.Is {
		if len(steps) > 10+5*len(up) {
			t.Fatalf("%v does not end", x.Op)
		}
		steps = append(steps, x.Step)
		up, x = Step(up, prio, x)
	}
	return steps, up, x
}

func TestWholeOperations(t *testing.T) {
	chain := []int{1, 2, 3, 4, 4, 5}
	two := []int{1, 2, 2, 4, 5, 5}
	for _, c := range []struct {
		up     []int
		op     api.Op
		steps  []int
		then   []int
		result int
	}{
		{[]int{0}, op(api.OFind, 0, 0), []int{1}, []int{0}, 0},
		{chain, op(api.OFind, 4, 0), []int{1}, chain, 4},
		{chain, op(api.OFind, 3, 9), []int{1, 2}, chain, 4},
		{chain, op(api.OFind, 2, -9), []int{1, 2, 3, 1, 2}, []int{1, 2, 4, 4, 4, 5}, 4},
		{chain, op(api.OFind, 0, 0), []int{1, 2, 3, 1, 2, 3, 1, 2, 3, 1, 2}, []int{2, 3, 4, 4, 4, 5}, 4},
		{chain, op(api.OSame, 3, 2), []int{1, 2, 4, 5, 6, 4, 5}, []int{1, 2, 4, 4, 4, 5}, 1},
		{chain, op(api.OSame, 5, 4), []int{1, 4, 7}, chain, 0},
		{chain, op(api.OSame, 3, 5), []int{1, 2, 4, 7}, chain, 0},
		{two, op(api.OSame, 0, 3), []int{1, 2, 3, 1, 2, 4, 5, 6, 4, 5, 7}, []int{2, 2, 2, 5, 5, 5}, 0},
		{two, op(api.OUnite, 0, 3), []int{1, 2, 3, 1, 2, 4, 5, 6, 4, 5, 8}, []int{2, 2, 5, 5, 5, 5}, 1},
		{two, op(api.OUnite, 3, 0), []int{1, 2, 3, 1, 2, 4, 5, 6, 4, 5, 8}, []int{2, 2, 5, 5, 5, 5}, 1},
		{two, op(api.OUnite, 2, 5), []int{1, 4, 8}, []int{1, 2, 5, 4, 5, 5}, 1},
		{two, op(api.OUnite, 1, 0), []int{1, 2, 4, 5, 6, 4, 5}, []int{2, 2, 2, 4, 5, 5}, 0},
		// Of one element twice.
		{chain, op(api.OSame, 5, 5), []int{1, 4}, chain, 1},
		{chain, op(api.OUnite, 5, 5), []int{1, 4}, chain, 0},
		{chain, op(api.OSame, 3, 3), []int{1, 2, 4, 5}, chain, 1},
		{chain, op(api.OUnite, 2, 2), []int{1, 2, 3, 1, 2, 4, 5}, []int{1, 2, 4, 4, 4, 5}, 0},
	} {
		prio := lists.Span(1, len(c.up))
		steps, up, x := finish(t, c.up, prio, begun(t, c.op, len(c.up)))
		if !slices.Equal(steps, c.steps) || !slices.Equal(up, c.then) || x.Result != c.result || x.Op != c.op {
			t.Errorf("%v of %v: steps %v, then %v, %+v", c.op, c.up, steps, up, x)
		}
	}
}

// Of all small cells, each step is what chapter 4 tells, and each result what the roots tell.
func TestWholeOperationsOfAllSmallCells(t *testing.T) {
	for n := 1; n < 4; n++ {
		lists.Each(n, []int{-1, 0, 3}, func(prio []int) {
			for _, up := range forests(prio) {
				for _, o := range plays.Ops(n) {
					checkWhole(t, up, prio, o)
				}
			}
		})
	}
	for _, prio := range [][]int{{1, 2, 3, 4, 5}, {-4, -4, -4, -4, -4}, {9, 7, 5, 3, 1}} {
		for _, up := range forests(prio) {
			for _, o := range plays.Ops(5) {
				checkWhole(t, up, prio, o)
			}
		}
	}
}

// checkWhole makes an operation, step by step.
func checkWhole(t *testing.T, up, prio []int, o api.Op) {
	t.Helper()
	first, x := up, begun(t, o, len(up))
	for n := 0; !x.Is; n++ {
		if n > 10+5*len(up) {
			t.Fatalf("%v of %v does not end", o, first)
		}
		wantUp, want := slices.Clone(up), x
		plainStep(wantUp, prio, &want)
		got, y := Step(up, prio, x)
		if !slices.Equal(got, wantUp) || y != want {
			t.Fatalf("Step(%v, %v, %+v) = %v, %+v", up, prio, x, got, y)
		}
		up, x = got, y
	}
	was, roots := rootsOf(first), rootsOf(up)
	same := 0
	if was[o.X] == was[o.Y] {
		same = 1
	}
	want := map[int]int{api.OFind: was[o.X], api.OSame: same, api.OUnite: 1 - same}[o.Kind]
	if x.Result != want {
		t.Errorf("%v of %v: Result %d", o, first, x.Result)
	}
	if o.Kind == api.OUnite && roots[o.X] != roots[o.Y] || o.Kind != api.OUnite && !slices.Equal(was, roots) {
		t.Errorf("%v of %v: then %v", o, first, up)
	}
}

func TestStepOfOneThatIsDone(t *testing.T) {
	up, prio := []int{1, 2, 2, 4, 4, 5}, lists.Span(1, 6)
	for kind := range 5 {
		for step := range 10 {
			x := api.Task{Op: op(kind, 0, 3), Step: step, U: 0, V: 3, W: 1, R: 2, Is: true, Result: 1}
			if got, y := Step(up, prio, x); !slices.Equal(got, up) || y != x {
				t.Errorf("Step of %+v tells %v, %+v", x, got, y)
			}
		}
	}
	for _, o := range plays.Ops(6) {
		_, cells, x := finish(t, up, prio, begun(t, o, 6))
		for range 3 {
			got, y := Step(cells, prio, x)
			if !slices.Equal(got, cells) || y != x {
				t.Errorf("Step of %+v tells %v, %+v", x, got, y)
			}
		}
		// Where others went on meanwhile, too.
		if got, y := Step(lists.Of(6, 5), prio, x); !slices.Equal(got, lists.Of(6, 5)) || y != x {
			t.Errorf("Step of %+v tells %v, %+v", x, got, y)
		}
	}
}

// Promises 4.3 and 4.4, tasks in turns.

const (
	cells = 4
	tasks = 3
)

// state is the cells and the tasks that go on in turns.
type state struct {
	up    [cells]int
	tasks [tasks]api.Task
}

// walk goes through all that may come of tasks in turns.
type walk struct {
	t     *testing.T
	prio  []int
	n     int // cells
	k     int // tasks
	seen  map[state]int
	steps map[int]int // how often each step was made
	lost  map[int]int // how often each step found another cell
}

// from goes on from s, with each of the tasks that are not done.
func (w *walk) from(s state, ended func(state)) {
	const under, behind = 1, 2
	switch w.seen[s] {
	case under:
		w.t.Fatalf("tasks go round: %v", s)
	case behind:
		return
	}
	w.seen[s] = under
	done := true
	for i := range w.k {
		if !s.tasks[i].Is {
			done = false
			w.from(w.step(s, i), ended)
		}
	}
	if done {
		ended(s)
	}
	w.seen[s] = behind
}

// step makes a step of task i, and checks it: by the plain one, and by 4.4.
func (w *walk) step(s state, i int) state {
	up, x := s.up[:w.n], s.tasks[i]
	wantUp, want := slices.Clone(up), x
	plainStep(wantUp, w.prio, &want)
	next, y := Step(up, w.prio, x)
	if !slices.Equal(next, wantUp) || y != want || !May(next, w.prio) {
		w.t.Fatalf("Step(%v, %v, %+v) = %v, %+v", up, w.prio, x, next, y)
	}
	w.steps[x.Step]++
	if (x.Step == 3 && up[x.U] != x.W) || (x.Step == 6 && up[x.V] != x.W) || (x.Step > 6 && y.Step == 1) {
		w.lost[x.Step]++
	}
	was, is := rootsOf(up), rootsOf(next)
	if x.Step != 8 && !slices.Equal(was, is) {
		w.t.Fatalf("step %d changed roots: %v to %v", x.Step, up, next)
	}
	for a := range was {
		for b := range was {
			if was[a] == was[b] && is[a] != is[b] {
				w.t.Fatalf("%d and %d had one root in %v, and have none in %v", a, b, up, next)
			}
		}
	}
	copy(s.up[:], next)
	s.tasks[i] = y
	return s
}

// explains tells whether the results of the tasks that are left are those of the operations, made whole in some order.
// Among all of a class the root is the one that is below none of it.
func (w *walk) explains(roots []int, left []api.Task, end []int) bool {
	if len(left) == 0 {
		return slices.Equal(roots, end)
	}
	r := rank(w.prio)
	for i, x := range left {
		u, v, result, then := roots[x.Op.X], roots[x.Op.Y], roots[x.Op.X], slices.Clone(roots)
		if x.Op.Kind != api.OFind {
			result = 0
			if (u == v) == (x.Op.Kind == api.OSame) {
				result = 1
			}
		}
		if x.Op.Kind == api.OUnite {
			for z, root := range roots {
				if (root == u || root == v) && r[u] > r[v] {
					then[z] = u
				} else if root == u || root == v {
					then[z] = v
				}
			}
		}
		if result == x.Result && w.explains(then, slices.Delete(slices.Clone(left), i, i+1), end) {
			return true
		}
	}
	return false
}

// all goes through all turns of the operations, from up on.
func (w *walk) all(up []int, l ...api.Op) {
	var s state
	w.n, w.k = len(up), len(l)
	copy(s.up[:], up)
	for i, o := range l {
		s.tasks[i] = begun(w.t, o, len(up))
	}
	// What may come hangs on where it began: the results are explained from there.
	clear(w.seen)
	start := rootsOf(up)
	w.from(s, func(s state) {
		if !w.explains(start, s.tasks[:w.k], rootsOf(s.up[:w.n])) {
			w.t.Errorf("from %v, %v: the results of %v are those of no order", up, w.prio, s)
		}
	})
}

// newWalk tells a walk that has not begun.
func newWalk(t *testing.T, prio []int) *walk {
	return &walk{t: t, prio: prio, seen: map[state]int{}, steps: map[int]int{}, lost: map[int]int{}}
}

func TestTwoTasksInTurns(t *testing.T) {
	for _, prio := range [][]int{{1, 2, 3}, {0, 0, 0}, {5, -2, -2}} {
		w := newWalk(t, prio)
		for _, up := range forests(prio) {
			for _, a := range plays.Ops(3) {
				for _, b := range plays.Ops(3) {
					w.all(up, a, b)
				}
			}
		}
	}
}

// Ways that are long enough for one to change the cell that another one is about to change.
func TestThreeTasksInTurns(t *testing.T) {
	steps, lost := map[int]int{}, map[int]int{}
	for _, prio := range [][]int{{1, 2, 3, 4}, {-1, -1, -1, -1}} {
		w := newWalk(t, prio)
		w.steps, w.lost = steps, lost
		for _, up := range [][]int{{0, 1, 2, 3}, {1, 2, 3, 3}, {1, 1, 3, 3}, {1, 2, 2, 3}} {
			w.all(up, op(api.OFind, 0, 0), op(api.OSame, 0, 1), op(api.OUnite, 0, 3))
			w.all(up, op(api.OSame, 2, 0), op(api.OSame, 0, 3), op(api.OUnite, 3, 0))
			w.all(up, op(api.OUnite, 0, 1), op(api.OUnite, 1, 2), op(api.OUnite, 2, 0))
			w.all(up, op(api.OUnite, 2, 0), op(api.OUnite, 3, 1), op(api.OSame, 0, 2))
			w.all(up, op(api.OUnite, 3, 0), op(api.OFind, 1, 0), op(api.OSame, 1, 0))
		}
	}
	for step := 1; step <= 8; step++ {
		if steps[step] == 0 {
			t.Errorf("step %d was never made", step)
		}
	}
	for _, step := range []int{3, 6, 7, 8} {
		if lost[step] == 0 {
			t.Errorf("step %d never found another cell", step)
		}
	}
}

// mixer tells numbers that are mixed: the same ones each time.
type mixer uint32

func (m *mixer) below(n int) int {
	*m = *m*1664525 + 1013904223
	return int(*m>>8) % n
}

// Many tasks on many elements, in turns that are mixed.
func TestManyTasksInTurns(t *testing.T) {
	const n, k = 60, 12
	for seed := range 60 {
		m := mixer(seed)
		prio, up, made := make([]int, n), lists.Span(0, n-1), 0
		for x := range prio {
			prio[x] = m.below(9) - 4
		}
		var under []api.Task
		for begun := 0; begun < 150 || len(under) > 0; {
			if len(under) < k && begun < 150 {
				x, _ := Begin(op(1+m.below(3), m.below(n), m.below(n)), n)
				under = append(under, x)
				begun++
				continue
			}
			i := m.below(len(under))
			wantUp, want := slices.Clone(up), under[i]
			plainStep(wantUp, prio, &want)
			up, under[i] = Step(up, prio, under[i])
			if !slices.Equal(up, wantUp) || under[i] != want || !May(up, prio) {
				t.Fatalf("seed %d: Step tells %v, %+v", seed, up, under[i])
			}
			if want.Is {
				made += unitedBy(want)
				under = slices.Delete(under, i, i+1)
			}
		}
		if roots := slices.Compact(slices.Sorted(slices.Values(rootsOf(up)))); len(roots) != n-made {
			t.Errorf("seed %d: %d roots of %d, and %d were united", seed, len(roots), n, made)
		}
	}
}

// unitedBy tells how many classes fewer there are by a task that is done.
func unitedBy(x api.Task) int {
	if x.Op.Kind == api.OUnite {
		return x.Result
	}
	return 0
}

// The same way is gone by one, and by another that comes behind it: what is changed is seen.
func TestOneBehindTheOther(t *testing.T) {
	prio, up := lists.Span(1, 6), []int{1, 2, 3, 4, 5, 5}
	a, b := begun(t, op(api.OFind, 0, 0), 6), begun(t, op(api.OFind, 0, 0), 6)
	up, a = Step(up, prio, a)
	up, b = Step(up, prio, b)
	up, a = Step(up, prio, a)
	up, b = Step(up, prio, b)
	up, a = Step(up, prio, a) // 0 is under 2
	up, a = Step(up, prio, a)
	up, a = Step(up, prio, a)
	up, a = Step(up, prio, a) // 1 is under 3
	up, b = Step(up, prio, b)
	if want := []int{2, 3, 3, 4, 5, 5}; !slices.Equal(up, want) {
		t.Errorf("the cells are %v, want %v", up, want)
	}
	if want := (api.Task{Op: a.Op, Step: 1, U: 1, W: 1, R: 2}); b != want {
		t.Errorf("the other one is %+v, want %+v", b, want)
	}
	up, b = Step(up, prio, b)
	up, b = Step(up, prio, b)
	if want := (api.Task{Op: a.Op, Step: 3, U: 1, W: 3, R: 4}); b != want {
		t.Errorf("the other one is %+v, want %+v", b, want)
	}
	_, up, a = finish(t, up, prio, a)
	_, _, b = finish(t, up, prio, b)
	if a.Result != 5 || b.Result != 5 {
		t.Errorf("found are %d and %d", a.Result, b.Result)
	}
}

// A root that was found is one no more, when the other one is found: the question is asked again, and told yes.
func TestQuestionThatIsAskedAgain(t *testing.T) {
	prio, up := lists.Span(1, 3), lists.Span(0, 2)
	ask := begun(t, op(api.OSame, 0, 2), 3)
	up, ask = Step(up, prio, ask)
	up, ask = Step(up, prio, ask)
	if ask.Step != 7 {
		t.Fatalf("the question is %+v", ask)
	}
	_, up, _ = finish(t, up, prio, begun(t, op(api.OUnite, 2, 0), 3))
	steps, _, ask := finish(t, up, prio, ask)
	if !slices.Equal(steps, []int{7, 1, 2, 4}) || ask.Result != 1 {
		t.Errorf("by %v the question is %+v", steps, ask)
	}
}

// The most elements.
func TestStepOfTheMost(t *testing.T) {
	const n = 1 << 16
	up, prio := append(lists.Span(1, n-1), n-1), lists.Of(n, 3)
	x := begun(t, op(api.OUnite, n-4, n-1), n)
	steps, up, x := finish(t, up, prio, x)
	if !slices.Equal(steps, []int{1, 2, 3, 1, 2, 3, 1, 2, 4}) || x.Result != 0 || up[n-4] != n-2 || up[n-3] != n-1 {
		t.Errorf("by %v: %+v, %v", steps, x, up[n-4:])
	}
}

// R1: of cells and tasks of which nothing is said each call ends, none panics, and the same is told again.

func TestCellsThatMayNotBe(t *testing.T) {
	wild := []int{math.MinInt, -1, 0, 1, 2, 3, math.MaxInt}
	for n := range 4 {
		lists.Each(n, wild, func(up []int) {
			for x := -2; x < 5; x++ {
				if Root(up, x) != Root(slices.Clone(up), x) {
					t.Errorf("Root(%v, %d) tells another one again", up, x)
				}
			}
			May(up, up)
			May(up, nil)
			May(nil, up)
			for _, o := range plays.Ops(2) {
				for _, prio := range [][]int{nil, {1}, up, {5, 4, 3, 2}} {
					x := api.Task{Op: o, Step: 1, U: o.X, V: o.Y}
					cells := up
					for range 12 {
						cells, x = twice(t, cells, prio, x)
					}
				}
			}
		})
	}
	round := append(lists.Span(1, 1<<16), 0)
	if Root(round, 5) != Root(round, 5) {
		t.Error("Root of a way that leads round tells another one again")
	}
}

// twice makes a step twice.
func twice(t *testing.T, up, prio []int, x api.Task) ([]int, api.Task) {
	t.Helper()
	was := slices.Clone(up)
	l, y := Step(up, prio, x)
	if m, z := Step(was, slices.Clone(prio), x); !slices.Equal(l, m) || y != z {
		t.Fatalf("Step(%v, %v, %+v) tells another one again", up, prio, x)
	}
	if !slices.Equal(up, was) {
		t.Fatalf("%v became %v", was, up)
	}
	return l, y
}

func TestTasksThatMayNotBe(t *testing.T) {
	wild := []int{math.MinInt, -1, 0, 1, 3, math.MaxInt}
	for _, up := range [][]int{nil, {0}, {1, 2, 2}, {-1, 5, 0}} {
		prio := lists.Span(1, len(up))
		lists.Each(4, wild, func(l []int) {
			for step := -1; step < 10; step++ {
				for kind := range 5 {
					x := api.Task{Op: op(kind, l[0], l[1]), Step: step, U: l[0], V: l[1], W: l[2], R: l[3]}
					cells := up
					for range 3 {
						cells, x = twice(t, cells, prio, x)
					}
				}
			}
		})
	}
	for _, step := range []int{math.MinInt, math.MaxInt, 1<<32 + 1} {
		twice(t, []int{0}, []int{0}, api.Task{Op: finds, Step: step})
	}
}

// R3.

func TestNothingHandedInIsChanged(t *testing.T) {
	up, prio := lists.Roomy([]int{1, 2, 3, 4, 4, 5}, 7), lists.Roomy(lists.Span(1, 6), 7)
	was, wasPrio := slices.Clone(up[:cap(up)]), slices.Clone(prio[:cap(prio)])
	May(up, prio)
	for x := -1; x < 8; x++ {
		Root(up, x)
	}
	for _, o := range plays.Ops(6) {
		for step := range 10 {
			Step(up, prio, api.Task{Op: o, Step: step, U: o.X, V: o.Y, W: up[o.X], R: 5})
			Step(up, prio, api.Task{Op: o, Step: step, U: o.X, V: o.Y, W: up[o.Y], R: 5})
		}
	}
	if !slices.Equal(up[:cap(up)], was) || !slices.Equal(prio[:cap(prio)], wasPrio) {
		t.Errorf("what was handed in is now %v and %v", up[:cap(up)], prio[:cap(prio)])
	}
}

// Of steps that look, that change, that find another cell, and of tasks that are done.
func TestWhatIsToldIsNewMemory(t *testing.T) {
	prio := lists.Span(1, 6)
	for _, x := range []api.Task{
		{Op: finds, Step: 1}, {Op: finds, Step: 2, W: 1}, {Op: finds, Step: 3, W: 1, R: 2}, {Op: finds, Step: 3, W: 2, R: 3},
		{Op: sames, Step: 4, U: 4, V: 3}, {Op: sames, Step: 5, U: 4, V: 3, W: 4}, {Op: sames, Step: 6, V: 1, W: 2, R: 3},
		{Op: sames, Step: 7, U: 4, V: 5}, {Op: unites, Step: 8, U: 4, V: 5}, {Op: unites, Step: 8, U: 0, V: 5},
		{Op: finds, Step: 1, Is: true}, {}, {Step: 9},
	} {
		up := lists.Roomy([]int{1, 2, 3, 4, 4, 5}, 7)
		was := slices.Clone(up[:cap(up)])
		one, _ := Step(up, prio, x)
		other, _ := Step(up, prio, x)
		want := slices.Clone(one)
		scribble(append(one, -78))
		scribble(one)
		if !slices.Equal(up[:cap(up)], was) || !slices.Equal(other, want) {
			t.Errorf("%+v: the cells told share memory", x)
		}
		scribble(up)
		if !slices.Equal(other, want) {
			t.Errorf("%+v: the cells told share what was handed in", x)
		}
	}
}

func TestNothingToldIsNewMemory(t *testing.T) {
	empty := lists.Roomy(nil, 7)
	was := slices.Clone(empty[:cap(empty)])
	for _, x := range []api.Task{{}, {Op: finds, Step: 1}, {Op: finds, Step: 3}, {Op: unites, Step: 8}, {Is: true}} {
		l, _ := Step(empty, nil, x)
		scribble(append(l, 5))
		scribble(l)
	}
	if !slices.Equal(empty[:cap(empty)], was) {
		t.Errorf("what was handed in is now %v", empty[:cap(empty)])
	}
}
