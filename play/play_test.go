package play

import (
	"math"
	"slices"
	"strconv"
	"strings"
	"testing"

	"warp/api"
	"warp/cuf"
	"warp/lists"
	"warp/part"
	"warp/pick"
	"warp/plays"
)

const most = 1 << 12 // elements, and operations

func find(x int) api.Op     { return api.Op{Kind: api.OFind, X: x} }
func same(x, y int) api.Op  { return api.Op{Kind: api.OSame, X: x, Y: y} }
func unite(x, y int) api.Op { return api.Op{Kind: api.OUnite, X: x, Y: y} }

// script tells those operations as a list.
func script(l ...api.Op) []api.Op { return l }

// all tells those scripts as a list.
func all(l ...[]api.Op) [][]api.Op { return l }

// event tells an event.
func event(w int, o api.Op, result, begin, place, end int) api.Event {
	return api.Event{Worker: w, Op: o, Result: result, Begin: begin, Place: place, End: end}
}

// told is what Play tells.
type told struct {
	l     []api.Event
	up    []int
	steps int
}

// play tells what Play tells.
func play(prio []int, scripts [][]api.Op, picks []int) told {
	l, up, steps := Play(prio, scripts, picks)
	return told{l, up, steps}
}

// is tells whether both are the same.
func (a told) is(b told) bool {
	return slices.Equal(a.l, b.l) && slices.Equal(a.up, b.up) && a.steps == b.steps
}

// check checks what Play tells.
func check(t *testing.T, prio []int, scripts [][]api.Op, picks []int, want told) {
	t.Helper()
	if got := play(prio, scripts, picks); !got.is(want) {
		t.Errorf("Play(%v, %v, %v)\n tells %v\n want  %v", prio, scripts, picks, got, want)
	}
}

// workers tells who ended an operation, one behind the other.
func workers(l []api.Event) string {
	var names []string
	for _, e := range l {
		names = append(names, strconv.Itoa(e.Worker))
	}
	return strings.Join(names, " ")
}

// checkWorkers checks who goes on at each time. All operations are finds of roots, which have one step each: each time
// has its event.
func checkWorkers(t *testing.T, scripts [][]api.Op, picks []int, want string) {
	t.Helper()
	l, _, steps := Play([]int{0, 0, 0}, scripts, picks)
	if got := workers(l); got != want || steps != len(l) {
		t.Errorf("Play(.., %v, %v): %s in %d steps, want %s", scripts, picks, got, steps, want)
	}
	for i, e := range l {
		if e != event(e.Worker, e.Op, e.Op.X, i+1, i+1, i+1) {
			t.Errorf("Play(.., %v, %v): at time %d %v", scripts, picks, i+1, e)
		}
	}
}

// finds tells n finds of element 0.
func finds(n int) []api.Op {
	return slices.Repeat(script(find(0)), n)
}

// sized tells that many lists of as many finds of element 0 each.
func sized(count, n int) [][]api.Op {
	var l [][]api.Op
	for range count {
		l = append(l, finds(n))
	}
	return l
}

// plainPlay plays as 5.1 tells it, without bits and with all picks in one list. It is what the tests hold Play against.
func plainPlay(prio []int, scripts [][]api.Op, picks []int) told {
	n := len(prio)
	r := told{up: lists.Span(0, n-1)}
	rest := make([][]api.Task, len(scripts))
	for w, s := range scripts {
		for _, o := range s {
			if x, ok := cuf.Begin(o, n); ok {
				rest[w] = append(rest[w], x)
			}
		}
	}
	under := make([]bool, len(scripts))
	tasks, begins, ended := make([]api.Task, len(scripts)), make([]int, len(scripts)), make([]int, len(scripts))
	for p := pick.Start(picks); ; {
		enabled := make([]bool, len(scripts))
		for w := range scripts {
			enabled[w] = under[w] || len(rest[w]) > 0
		}
		var w int
		if w, p = pick.Next(p, enabled); w < 0 {
			return r
		}
		r.steps++
		if !under[w] {
			under[w], tasks[w], rest[w], begins[w] = true, rest[w][0], rest[w][1:], r.steps
		}
		r.up, tasks[w] = cuf.Step(r.up, prio, tasks[w])
		x := tasks[w]
		if x.Step == 7 && !x.Is {
			ended[w] = r.steps
		}
		if !x.Is {
			continue
		}
		under[w] = false
		place := r.steps
		if x.Op.Kind == api.OSame && x.Result == 0 {
			place = ended[w]
		}
		r.l = append(r.l, event(w, x.Op, x.Result, begins[w], place, r.steps))
	}
}

// Promise 5.1: one worker.

func TestNoScripts(t *testing.T) {
	for n := range 4 {
		up := lists.Span(0, n-1)
		prio := lists.Of(n, 7)
		for _, scripts := range [][][]api.Op{nil, {}, {nil}, {{}}, {nil, {}, nil}, make([][]api.Op, api.MaxWorkers)} {
			for _, picks := range [][]int{nil, {}, {0}, {3, -1}} {
				check(t, prio, scripts, picks, told{up: up})
			}
		}
	}
}

func TestOneOperation(t *testing.T) {
	prio := []int{1, 2, 3}
	for _, c := range []struct {
		o           api.Op
		result      int
		place, ends int
		up          []int
	}{
		{find(0), 0, 1, 1, []int{0, 1, 2}},
		{find(2), 2, 1, 1, []int{0, 1, 2}},
		{same(0, 2), 0, 2, 3, []int{0, 1, 2}},
		{same(1, 1), 1, 2, 2, []int{0, 1, 2}},
		{unite(0, 2), 1, 3, 3, []int{2, 1, 2}},
		{unite(2, 0), 1, 3, 3, []int{2, 1, 2}},
		{unite(1, 1), 0, 2, 2, []int{0, 1, 2}},
	} {
		want := told{[]api.Event{event(0, c.o, c.result, 1, c.place, c.ends)}, c.up, c.ends}
		check(t, prio, all(script(c.o)), nil, want)
	}
}

func TestOneWorkerDoesOneBehindTheOther(t *testing.T) {
	// The chain 0, 1, 2, 3; then a find that puts 0 under 2.
	l := script(unite(0, 1), unite(1, 2), unite(2, 3), find(0), same(0, 3), unite(0, 2), same(1, 0))
	check(t, []int{5, 5, 5, 5}, all(l), []int{4, -9}, told{[]api.Event{
		event(0, l[0], 1, 1, 3, 3),
		event(0, l[1], 1, 4, 6, 6),
		event(0, l[2], 1, 7, 9, 9),
		event(0, l[3], 3, 10, 17, 17),  // 1, 2, 3 for 0; 1, 2, 3 for 1; 1, 2 for 2
		event(0, l[4], 1, 18, 23, 23),  // 1, 2, 3 for 0; 1, 2 for 2; 4
		event(0, l[5], 0, 24, 27, 27),  // 1, 2; 4, 5
		event(0, l[6], 1, 28, 31, 31)}, // 1, 2; 4, 5
		[]int{3, 3, 3, 3}, 31})
}

func TestPrioritiesRule(t *testing.T) {
	for _, c := range []struct{ prio, up []int }{
		{[]int{1, 2}, []int{1, 1}}, {[]int{2, 1}, []int{0, 0}}, {[]int{3, 3}, []int{1, 1}},
		{[]int{math.MinInt, math.MaxInt}, []int{1, 1}}, {[]int{math.MaxInt, math.MinInt}, []int{0, 0}},
	} {
		check(t, c.prio, all(script(unite(1, 0))), nil, told{[]api.Event{event(0, unite(1, 0), 1, 1, 3, 3)}, c.up, 3})
	}
}

// The second element of a find is none: it is told as it was handed in.
func TestOperationIsToldWhole(t *testing.T) {
	o := api.Op{Kind: api.OFind, X: 1, Y: -99}
	check(t, []int{0, 0}, all(script(o)), nil, told{[]api.Event{event(0, o, 1, 1, 1, 1)}, []int{0, 1}, 1})
}

// Promise 5.1: how much may be.

// checkNothing checks that nothing is told.
func checkNothing(t *testing.T, what string, prio []int, scripts [][]api.Op) {
	t.Helper()
	if l, up, steps := Play(prio, scripts, []int{1}); len(l) != 0 || len(up) != 0 || steps != 0 {
		t.Errorf("%s: %d events, %d cells, %d steps", what, len(l), len(up), steps)
	}
}

func TestMostElements(t *testing.T) {
	prio := lists.Of(most, 0)
	check(t, prio, nil, nil, told{up: lists.Span(0, most-1)})
	check(t, prio, all(script(find(most-1), find(most))), nil,
		told{[]api.Event{event(0, find(most-1), most-1, 1, 1, 1)}, lists.Span(0, most-1), 1})
	checkNothing(t, "no scripts", lists.Of(most+1, 0), nil)
	checkNothing(t, "a find", lists.Of(most+1, 0), all(finds(1)))
	checkNothing(t, "many elements", lists.Of(1<<16, 0), all(finds(1)))
}

func TestMostWorkers(t *testing.T) {
	l, up, steps := Play([]int{0}, sized(api.MaxWorkers, 1), nil)
	if len(l) != api.MaxWorkers || len(up) != 1 || steps != api.MaxWorkers {
		t.Errorf("%d events, %d cells, %d steps", len(l), len(up), steps)
	}
	checkNothing(t, "finds", []int{0}, sized(api.MaxWorkers+1, 1))
	checkNothing(t, "nil scripts", []int{0}, make([][]api.Op, api.MaxWorkers+1))
	checkNothing(t, "one with a find", []int{0}, append(make([][]api.Op, api.MaxWorkers), finds(1)))
	checkNothing(t, "many more", []int{0}, make([][]api.Op, 1<<16))
}

func TestMostOperations(t *testing.T) {
	refused := slices.Repeat(script(find(1)), most)
	for i, c := range []struct {
		scripts [][]api.Op
		events  int
	}{
		{all(finds(most)), most},
		{all(nil, finds(most), nil), most},
		{sized(64, most/64), most},
		{all(finds(most-1), finds(1)), most},
		{all(refused), 0},
		{all(refused[1:], finds(1)), 1},
	} {
		l, up, steps := Play([]int{0}, c.scripts, nil)
		if len(l) != c.events || len(up) != 1 || steps != c.events {
			t.Errorf("case %d: %d events, %d cells, %d steps, want %d events", i, len(l), len(up), steps, c.events)
		}
	}
	checkNothing(t, "one script", []int{0}, all(finds(most+1)))
	checkNothing(t, "two scripts", []int{0}, all(finds(most), finds(1)))
	checkNothing(t, "the one more ahead", []int{0}, all(finds(1), finds(most)))
	checkNothing(t, "64 scripts", []int{0}, append(sized(63, most/64), finds(most/64+1)))
	checkNothing(t, "twice as many", []int{0}, all(finds(most), finds(most)))
	// Those that Begin refuses are operations, too.
	checkNothing(t, "refused ones", []int{0}, all(refused, finds(1)))
	checkNothing(t, "refused ones alone", nil, all(refused, script(find(0))))
	for _, o := range []api.Op{{}, {Kind: 4}, same(0, 0), unite(0, 0)} {
		checkNothing(t, "other kinds", []int{0}, all(slices.Repeat(script(o), most), finds(1)))
		checkNothing(t, "other kinds alone", []int{0}, all(slices.Repeat(script(o), most+1)))
	}
}

// Promise 5.1: operations that Begin refuses.

// refused tells operations that Begin refuses, of three elements.
func refused() []api.Op {
	return []api.Op{
		{}, {Kind: 4, X: 0, Y: 1}, {Kind: -1}, {Kind: math.MinInt}, {Kind: math.MaxInt},
		find(3), find(-1), find(math.MaxInt), find(math.MinInt),
		same(0, 3), same(3, 0), same(-1, 0), same(0, -1), same(math.MinInt, math.MaxInt),
		unite(0, 3), unite(3, 0), unite(-1, 0), unite(0, -1), unite(3, 3),
	}
}

func TestRefusedAlone(t *testing.T) {
	up := []int{0, 1, 2}
	for _, o := range refused() {
		check(t, up, all(script(o)), []int{1}, told{up: up})
		check(t, up, all(script(o, o), nil, script(o)), nil, told{up: up})
	}
	check(t, up, all(refused(), refused()), nil, told{up: up})
}

func TestRefusedAmongOthers(t *testing.T) {
	prio := []int{1, 2, 3}
	want := play(prio, all(script(find(1), unite(0, 2))), nil)
	if len(want.l) != 2 || want.steps != 4 {
		t.Fatalf("%v", want)
	}
	for _, o := range refused() {
		check(t, prio, all(script(o, find(1), unite(0, 2))), nil, want)
		check(t, prio, all(script(find(1), o, o, unite(0, 2))), nil, want)
		check(t, prio, all(script(find(1), unite(0, 2), o)), nil, want)
		check(t, prio, all(script(o, find(1), o, unite(0, 2), o, o)), nil, want)
	}
}

// A worker that has none but refused ones left is not enabled: it has no turn, and picks don't count it.
func TestRefusedIsNoneThatHasNotBegun(t *testing.T) {
	no := find(9)
	scripts := all(script(no), script(find(1), no, no), script(no, find(2)), script(no, no))
	checkWorkers(t, scripts, nil, "1 2")
	checkWorkers(t, scripts, []int{1, 0}, "2 1")
	checkWorkers(t, scripts, []int{-1, 5}, "2 1")
	checkWorkers(t, all(script(find(0), no), script(find(0), find(1), find(2), no)), []int{0, 1, 1, 1}, "0 1 1 1")
	for _, x := range []int{-1, 0, 3} {
		check(t, nil, all(script(find(x), same(x, x), unite(x, x))), nil, told{})
	}
}

// Promise 5.1: who goes on.

func TestInTurnWithoutPicks(t *testing.T) {
	for _, picks := range [][]int{nil, {}} {
		checkWorkers(t, all(finds(2), finds(2), finds(2)), picks, "0 1 2 0 1 2")
		checkWorkers(t, all(finds(1), finds(3), finds(2)), picks, "0 1 2 1 2 1")
		checkWorkers(t, all(nil, finds(3), nil, finds(1)), picks, "1 3 1 1")
		checkWorkers(t, all(finds(4)), picks, "0 0 0 0")
	}
}

func TestPicksChooseOfTheEnabled(t *testing.T) {
	l := all(finds(2), nil, finds(1), finds(0), finds(1))
	checkWorkers(t, l, []int{1, 1, 1, 1}, "2 4 0 0")
	checkWorkers(t, l, []int{0, 0, 0, 0}, "0 0 2 4")
	checkWorkers(t, l, []int{2, 2, 2, 2}, "4 0 0 2")
	checkWorkers(t, l, []int{3, 4, 5, 6}, "0 2 4 0")
	checkWorkers(t, l, []int{-1, -1, -1, -1}, "4 2 0 0")
	checkWorkers(t, l, []int{-2, -5, -3, -7}, "2 4 0 0")
	checkWorkers(t, l, []int{math.MaxInt, math.MinInt, 0, 0}, "2 0 0 4")
}

func TestTurnBehindThePicks(t *testing.T) {
	l := all(finds(2), finds(2), finds(2))
	checkWorkers(t, l, []int{1}, "1 2 0 1 2 0")
	checkWorkers(t, l, []int{2}, "2 0 1 2 0 1")
	checkWorkers(t, l, []int{0, 0}, "0 0 1 2 1 2")
	checkWorkers(t, l, []int{2, 2, 1}, "2 2 1 0 1 0")
}

func TestMorePicksThanSteps(t *testing.T) {
	l := all(finds(2), finds(2))
	for _, more := range [][]int{{}, {1}, {-5, 7, 0}, lists.Span(0, 1<<20)} {
		checkWorkers(t, l, append([]int{1, 1, 0, 0}, more...), "1 1 0 0")
	}
	checkWorkers(t, l, []int{1, 0, 1}, "1 0 1 0")
}

// All places of the bits: each worker alone, and each chosen of all.
func TestEachOfTheMostWorkers(t *testing.T) {
	for w := range api.MaxWorkers {
		alone := make([][]api.Op, api.MaxWorkers)
		alone[w] = finds(2)
		name := strconv.Itoa(w)
		checkWorkers(t, alone, nil, name+" "+name)
		checkWorkers(t, alone[:w+1], []int{63, -1}, name+" "+name)
		l, _, _ := Play([]int{0}, sized(api.MaxWorkers, 2), []int{w, w})
		if len(l) != 2*api.MaxWorkers || l[0].Worker != w || l[1].Worker != w || l[2].Worker != (w+1)%api.MaxWorkers {
			t.Errorf("of all, %d picked: %s", w, workers(l))
		}
	}
}

// A worker with an operation under way stays enabled, though none of its own waits; it goes on where it was.
func TestUnderWayIsEnabled(t *testing.T) {
	l := all(script(unite(0, 1)), script(find(2), find(2), find(2), find(2)))
	check(t, []int{1, 2, 3}, l, []int{0, 1, 1, 0, 1, 0, 1}, told{[]api.Event{
		event(1, find(2), 2, 2, 2, 2), event(1, find(2), 2, 3, 3, 3), event(1, find(2), 2, 5, 5, 5),
		event(0, unite(0, 1), 1, 1, 6, 6), event(1, find(2), 2, 7, 7, 7)}, []int{1, 1, 2}, 7})
}

// One that ends at a time begins its next operation at the time of its next turn, not ahead of it.
func TestBeginIsTheTimeOfTheFirstStep(t *testing.T) {
	l := all(script(find(0), unite(0, 1)), script(find(2), find(2), find(2)))
	check(t, []int{1, 2, 3}, l, []int{0, 1, 1, 0, 1, 0, 0}, told{[]api.Event{
		event(0, find(0), 0, 1, 1, 1), event(1, find(2), 2, 2, 2, 2), event(1, find(2), 2, 3, 3, 3),
		event(1, find(2), 2, 5, 5, 5), event(0, unite(0, 1), 1, 4, 7, 7)}, []int{1, 1, 2}, 7})
}

// Events stand in the order of their ends, not of their begins, their places, or their workers.
func TestOrderOfEnds(t *testing.T) {
	l := all(script(same(0, 1)), script(unite(2, 3)), script(find(3)))
	check(t, []int{1, 2, 3, 4}, l, []int{0, 0, 1, 1, 2, 1, 0}, told{[]api.Event{
		event(2, find(3), 3, 5, 5, 5), event(1, unite(2, 3), 1, 3, 6, 6), event(0, same(0, 1), 0, 1, 2, 7)},
		[]int{0, 1, 3, 3}, 7})
}

// Promise 5.1: Place.

// Between the end of its second find and its own end others unite: the operation stands ahead of them.
func TestPlaceOfNotTheSame(t *testing.T) {
	prio := []int{1, 2, 3, 4}
	// U stays a root, V does not: they are the same at the end, and were not at the place.
	check(t, prio, all(script(same(3, 0)), script(unite(0, 3))), []int{0, 0, 1, 1, 1, 0}, told{[]api.Event{
		event(1, unite(0, 3), 1, 3, 5, 5), event(0, same(3, 0), 0, 1, 2, 6)}, []int{3, 1, 2, 3}, 6})
	// The second find ends at the second cell that it looks at.
	check(t, prio, all(script(unite(0, 1), same(2, 0)), script(find(3), find(3))),
		[]int{0, 0, 0, 0, 0, 1, 0, 1, 0}, told{[]api.Event{
			event(0, unite(0, 1), 1, 1, 3, 3), event(1, find(3), 3, 6, 6, 6), event(1, find(3), 3, 8, 8, 8),
			event(0, same(2, 0), 0, 4, 7, 9)}, []int{1, 1, 2, 3}, 9})
}

func TestPlaceWhereTheSecondFindEndedTwice(t *testing.T) {
	prio := []int{1, 2, 3, 4}
	l := all(script(same(0, 3)), script(unite(0, 1), unite(2, 3)))
	// Its second find ends at 2; 0 is put under 1 at 5; it sees that at 6, and its second find ends again at 9.
	picks := []int{0, 0, 1, 1, 1, 0, 0, 0, 0, 1, 1, 1, 0}
	check(t, prio, l, picks, told{[]api.Event{
		event(1, unite(0, 1), 1, 3, 5, 5), event(1, unite(2, 3), 1, 10, 12, 12), event(0, same(0, 3), 0, 1, 9, 13)},
		[]int{1, 1, 3, 3}, 13})
	// Three times: 1 is put under 2, too.
	l = all(script(same(0, 3)), script(unite(0, 1), unite(1, 2), find(3)))
	picks = []int{0, 0, 1, 1, 1, 0, 0, 0, 0, 1, 1, 1, 0, 0, 0, 0, 1, 0}
	check(t, prio, l, picks, told{[]api.Event{
		event(1, unite(0, 1), 1, 3, 5, 5), event(1, unite(1, 2), 1, 10, 12, 12), event(1, find(3), 3, 17, 17, 17),
		event(0, same(0, 3), 0, 1, 16, 18)}, []int{1, 2, 2, 3}, 18})
}

// Its second find ended with two roots, and then, in the next round, with one: its place is its end.
func TestPlaceOfTheSame(t *testing.T) {
	check(t, []int{1, 2, 3}, all(script(same(0, 1)), script(unite(0, 1))), []int{0, 0, 1, 1, 1}, told{[]api.Event{
		event(1, unite(0, 1), 1, 3, 5, 5), event(0, same(0, 1), 1, 1, 9, 9)}, []int{1, 1, 2}, 9})
}

func TestPlacesOfOneWorkerAreApart(t *testing.T) {
	l := script(same(0, 1), same(1, 0), same(2, 2), same(2, 0))
	check(t, []int{1, 2, 3}, all(l), nil, told{[]api.Event{
		event(0, l[0], 0, 1, 2, 3), event(0, l[1], 0, 4, 5, 6), event(0, l[2], 1, 7, 8, 8), event(0, l[3], 0, 9, 10, 11)},
		[]int{0, 1, 2}, 11})
}

// A unite has its place at its end, whether it united or not, and however many rounds it took.
func TestPlaceOfUnite(t *testing.T) {
	l := all(script(unite(0, 1)), script(unite(1, 0)))
	check(t, []int{1, 2, 3}, l, nil, told{[]api.Event{
		event(0, unite(0, 1), 1, 1, 5, 5), event(1, unite(1, 0), 0, 2, 9, 9)}, []int{1, 1, 2}, 9})
	l = all(script(unite(0, 2)), script(unite(0, 1)))
	check(t, []int{1, 2, 3}, l, []int{0, 0, 1, 1, 1}, told{[]api.Event{
		event(1, unite(0, 1), 1, 3, 5, 5), event(0, unite(0, 2), 1, 1, 10, 10)}, []int{1, 2, 2}, 10})
}

// Promise 5.1: workers change one another's cells.

func TestCellThatOtherHasChanged(t *testing.T) {
	// Worker 0 makes the chain 0, 1, 2, 3, and begins to find 0: it has seen 1 above 0, and 2 above that, when worker 1
	// puts 0 under 2, 1 under 3, and then 0 under 3. Its own change of 0 is none then.
	l := all(script(unite(0, 1), unite(1, 2), unite(2, 3), find(0)), script(find(0), find(0)))
	picks := slices.Concat(lists.Of(11, 0), lists.Of(13, 1), lists.Of(9, 0))
	check(t, []int{1, 2, 3, 4}, l, picks, told{[]api.Event{
		event(0, unite(0, 1), 1, 1, 3, 3), event(0, unite(1, 2), 1, 4, 6, 6), event(0, unite(2, 3), 1, 7, 9, 9),
		event(1, find(0), 3, 12, 19, 19), event(1, find(0), 3, 20, 24, 24), event(0, find(0), 3, 10, 27, 27)},
		[]int{3, 3, 3, 3}, 27})
}

func TestTwoWorkersInAllTurns(t *testing.T) {
	plays.OfTwo(func(prio []int, scripts [][]api.Op, picks []int) { checkPlain(t, prio, scripts, picks) })
}

// checkPlain checks that Play tells what plainPlay tells, and that it may be.
func checkPlain(t *testing.T, prio []int, scripts [][]api.Op, picks []int) {
	t.Helper()
	got, want := play(prio, scripts, picks), plainPlay(prio, scripts, picks)
	if !got.is(want) {
		t.Fatalf("Play(%v, %v, %v)\n tells %v\n want  %v", prio, scripts, picks, got, want)
	}
	checkTimes(t, got)
	checkAllEnd(t, len(prio), scripts, got.l)
	checkResults(t, prio, got)
}

// checkTimes checks how the times stand to one another.
func checkTimes(t *testing.T, r told) {
	t.Helper()
	last, lastOf, places := 0, map[int]int{}, map[int]int{}
	for _, e := range r.l {
		places[e.Place]++
		if e.End <= last || e.Begin <= lastOf[e.Worker] || e.Place < e.Begin || e.End < e.Place || places[e.Place] > 1 {
			t.Fatalf("%v may not stand in %v", e, r.l)
		}
		last, lastOf[e.Worker] = e.End, e.End
	}
	if r.steps != last {
		t.Fatalf("%d steps, and the last time is %d", r.steps, last)
	}
}

// checkAllEnd checks that each worker's operations that may begin have an event each, in their order (5.2).
func checkAllEnd(t *testing.T, n int, scripts [][]api.Op, l []api.Event) {
	t.Helper()
	ended := make([][]api.Op, len(scripts))
	for _, e := range l {
		ended[e.Worker] = append(ended[e.Worker], e.Op)
	}
	for w, s := range scripts {
		want := slices.DeleteFunc(slices.Clone(s), func(o api.Op) bool {
			_, ok := cuf.Begin(o, n)
			return !ok
		})
		if !slices.Equal(ended[w], want) {
			t.Fatalf("worker %d ended %v, want %v", w, ended[w], want)
		}
	}
}

// checkResults checks that the results are those of a partition on which the operations are done in the order of their
// places, and that the cells are of what is left of it.
func checkResults(t *testing.T, prio []int, r told) {
	t.Helper()
	l := slices.Clone(r.l)
	slices.SortFunc(l, func(a, b api.Event) int { return a.Place - b.Place })
	p := part.New(len(prio))
	for _, e := range l {
		is := part.Same(p, e.Op.X, e.Op.Y)
		ok := part.Same(p, e.Op.X, e.Result)
		switch e.Op.Kind {
		case api.OSame:
			ok = is == (e.Result == 1) && (is || e.Result == 0)
		case api.OUnite:
			ok = is == (e.Result == 0) && (is || e.Result == 1)
			p = part.Unite(p, e.Op.X, e.Op.Y)
		}
		if !ok {
			t.Fatalf("%v has another result than at its place in %v", e, l)
		}
	}
	roots := make([]int, len(prio))
	for x := range roots {
		roots[x] = cuf.Root(r.up, x)
	}
	for x := range roots {
		if !cuf.May(r.up, prio) || !part.Same(p, x, roots[x]) || roots[x] != roots[p[x]] {
			t.Fatalf("up %v, of the partition %v", r.up, p)
		}
	}
}

// Promises 5.1 and 5.2: many workers.

func TestManyThatAreDrawn(t *testing.T) {
	for seed := range 3000 {
		prio, scripts, picks := plays.Drawn(seed)
		checkPlain(t, prio, scripts, picks)
	}
}

// All workers at one chain, from its one end, one step each in turn.
func TestTheMostWorkersAtOneChain(t *testing.T) {
	const n = 40
	scripts := make([][]api.Op, api.MaxWorkers)
	for x := range n - 1 {
		scripts[0] = append(scripts[0], unite(x, x+1))
	}
	for w := range scripts[1:] {
		scripts[w+1] = script(find(0), same(0, w%n), unite(w%n, 0), same(n-1, 0))
	}
	checkPlain(t, lists.Of(n, 0), scripts, nil)
	checkPlain(t, lists.Of(n, 0), scripts, lists.Of(3*(n-1), 0))
	checkPlain(t, lists.Span(0, n-1), scripts, lists.Span(-3000, 3000))
}

func TestTheMostOfAll(t *testing.T) {
	scripts := make([][]api.Op, api.MaxWorkers)
	next := plays.Below(1)
	for i := range most {
		scripts[i%api.MaxWorkers] = append(scripts[i%api.MaxWorkers], unite(next(most), next(most)))
	}
	r := play(lists.Of(most, 0), scripts, nil)
	checkTimes(t, r)
	checkAllEnd(t, most, scripts, r.l)
	if len(r.l) != most || !cuf.May(r.up, lists.Of(most, 0)) {
		t.Errorf("%d events", len(r.l))
	}
}

// R1 and R5: whatever is handed in, the call ends, does not panic, and tells the same again.

func TestWhateverIsHandedIn(t *testing.T) {
	wild := []int{math.MinInt, -1, 0, 1, 2, 3, 4, math.MaxInt}
	var l []api.Op
	for _, kind := range wild {
		for _, x := range wild {
			for _, y := range wild {
				l = append(l, api.Op{Kind: kind, X: x, Y: y})
			}
		}
	}
	for _, prio := range [][]int{nil, {}, {0}, {math.MaxInt, math.MinInt}, wild[:3], wild} {
		for _, picks := range [][]int{nil, wild, slices.Repeat(wild, 99)} {
			scripts := all(l, nil, slices.Clone(l[100:]), l[:50])
			checkPlain(t, prio, scripts, picks)
			check(t, prio, scripts, picks, play(prio, scripts, picks))
		}
	}
}

// R3: what is handed in, what is told.

// ordinary tells priorities, scripts and picks with spare room, in new memory.
func ordinary() (prio []int, scripts [][]api.Op, picks []int) {
	scripts = all(
		lists.Roomy(script(unite(0, 1), find(9), same(0, 2)), unite(0, 3)),
		lists.Roomy(script(unite(1, 2), find(0)), find(3)), nil)
	return lists.Roomy([]int{4, 3, 8, 8}, 7), lists.Roomy(scripts, script(find(1))), lists.Roomy([]int{1, 0, 0, 1, -1}, 1)
}

func TestNothingHandedInIsChanged(t *testing.T) {
	prio, scripts, picks := ordinary()
	r := play(prio, scripts, picks)
	lists.Scribble(append(r.up, -77), -77)
	lists.Scribble(r.up, -77)
	lists.Scribble(append(r.l, api.Event{}), event(-7, find(-7), -7, -7, -7, -7))
	lists.Scribble(r.l, event(-7, find(-7), -7, -7, -7, -7))
	wasPrio, wasScripts, wasPicks := ordinary()
	if !slices.Equal(prio[:cap(prio)], wasPrio[:cap(wasPrio)]) ||
		!slices.Equal(picks[:cap(picks)], wasPicks[:cap(wasPicks)]) {
		t.Errorf("what was handed in is now %v and %v", prio[:cap(prio)], picks[:cap(picks)])
	}
	wasScripts, scripts = wasScripts[:cap(wasScripts)], scripts[:cap(scripts)]
	for w, s := range wasScripts {
		if !slices.Equal(scripts[w][:cap(scripts[w])], s[:cap(s)]) {
			t.Errorf("script %d is now %v", w, scripts[w])
		}
	}
}

func TestSpareRoomIsNotPlayed(t *testing.T) {
	prio, scripts, picks := ordinary()
	bare := all(script(unite(0, 1), find(9), same(0, 2)), script(unite(1, 2), find(0)), nil)
	check(t, []int{4, 3, 8, 8}, bare, []int{1, 0, 0, 1, -1}, play(prio, scripts, picks))
}

func TestWhatIsToldIsNewMemory(t *testing.T) {
	prio, scripts, picks := ordinary()
	one, other := play(prio, scripts, picks), play(prio, scripts, picks)
	want := told{slices.Clone(one.l), slices.Clone(one.up), one.steps}
	for w := range scripts {
		lists.Scribble(scripts[w], find(2))
	}
	lists.Scribble(scripts, nil)
	lists.Scribble(prio, -77)
	lists.Scribble(picks, -77)
	if !one.is(want) {
		t.Errorf("what was told became %v, was %v", one, want)
	}
	lists.Scribble(append(one.up, -77), -77)
	lists.Scribble(one.up, -77)
	lists.Scribble(one.l, api.Event{})
	if !other.is(want) {
		t.Errorf("what was told became %v, was %v", other, want)
	}
	prio, scripts, picks = ordinary()
	check(t, prio, scripts, picks, want)
}

// Where there is no step, the cells are new memory, too.
func TestCellsWithoutStepsAreNewMemory(t *testing.T) {
	prio := lists.Roomy([]int{0, 1, 2}, 3)
	r := play(prio, nil, nil)
	lists.Scribble(append(r.up, -77), -77)
	lists.Scribble(r.up, -77)
	if want := lists.Roomy([]int{0, 1, 2}, 3); !slices.Equal(prio[:cap(prio)], want[:cap(want)]) {
		t.Errorf("what was handed in is now %v", prio[:cap(prio)])
	}
	check(t, prio, nil, nil, told{up: []int{0, 1, 2}})
	none := play(nil, nil, nil)
	lists.Scribble(append(none.up, 5), -77)
	lists.Scribble(append(none.l, api.Event{}), api.Event{})
	check(t, nil, nil, nil, told{})
}
