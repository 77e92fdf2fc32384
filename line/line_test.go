package line

import (
	"math"
	"slices"
	"testing"

	"warp/api"
	"warp/cuf"
	"warp/lists"
	"warp/part"
	"warp/play"
	"warp/plays"
)

const f, s, u = api.OFind, api.OSame, api.OUnite

// event tells an event of worker w.
func event(w, kind, x, y, result, begin, place, end int) api.Event {
	return api.Event{
		Worker: w, Op: api.Op{Kind: kind, X: x, Y: y}, Result: result,
		Begin: begin, Place: place, End: end,
	}
}

// at tells an event of a worker of its own that takes all its times at one.
func at(place, kind, x, y, result int) api.Event {
	return event(place, kind, x, y, result, place, place, place)
}

// events tells those events as a list.
func events(l ...api.Event) []api.Event { return l }

// right tells a history of four elements that is legal. The list is not in the order of the places.
func right() []api.Event {
	return events(
		event(0, u, 0, 1, 1, 1, 2, 3),
		event(1, s, 1, 2, 0, 1, 5, 9),
		event(2, f, 3, 0, 3, 3, 7, 7),
		event(0, u, 2, 1, 1, 4, 6, 8),
		event(2, s, 0, 2, 1, 8, 8, 10),
		event(1, u, 2, 0, 0, 10, 11, 11),
		event(0, f, 2, 9, 0, 9, 12, 12),
	)
}

// with tells the right history with the event at i changed.
func with(i int, change func(e *api.Event)) []api.Event {
	l := right()
	change(&l[i])
	return l
}

// plainLegal tells what 6.2 tells, each two events held against one another. It is what the tests hold Legal against.
func plainLegal(n int, l []api.Event) bool {
	if n < 0 || n > 1<<16 {
		return false
	}
	for i, a := range l {
		if a.Begin < 1 || a.Place < a.Begin || a.End < a.Place {
			return false
		}
		for _, b := range l[:i] {
			if a.Place == b.Place || a.Worker == b.Worker && a.End >= b.Begin && b.End >= a.Begin {
				return false
			}
		}
	}
	p := part.New(n)
	for _, e := range plainOrder(l) {
		x, y, are := e.Op.X, e.Op.Y, 0
		if part.Same(p, x, y) {
			are = 1
		}
		isThere := part.Same(p, x, x) && part.Same(p, y, y)
		switch {
		case e.Op.Kind == f && part.Same(p, x, e.Result):
		case e.Op.Kind == s && isThere && e.Result == are:
		case e.Op.Kind == u && isThere && e.Result == 1-are:
			p = part.Unite(p, x, y)
		default:
			return false
		}
	}
	return true
}

// plainOrder puts each event behind those that are not behind it. It is what the tests hold Order against.
func plainOrder(l []api.Event) []api.Event {
	var ordered []api.Event
	for _, e := range l {
		i := len(ordered)
		for i > 0 && ordered[i-1].Place > e.Place {
			i--
		}
		ordered = slices.Insert(ordered, i, e)
	}
	return ordered
}

// Promise 6.1.

// checkOrder checks Order of l, and that l stands as it did.
func checkOrder(t *testing.T, l, want []api.Event) {
	t.Helper()
	was := slices.Clone(l)
	if got := Order(l); !slices.Equal(got, want) {
		t.Errorf("Order(%v)\n tells %v\n want  %v", l, got, want)
	}
	if !slices.Equal(l, was) {
		t.Errorf("what was handed in is now %v, was %v", l, was)
	}
}

func TestOrderOfFew(t *testing.T) {
	checkOrder(t, nil, nil)
	checkOrder(t, events(), nil)
	for _, place := range []int{math.MinInt, -1, 0, 1, math.MaxInt} {
		e := event(3, u, 1, 2, 1, 4, place, 5)
		checkOrder(t, events(e), events(e))
		checkOrder(t, events(e, e, e), events(e, e, e))
	}
}

func TestOrder(t *testing.T) {
	l := right()
	checkOrder(t, l, events(l[0], l[1], l[3], l[2], l[4], l[5], l[6]))
}

// By Place: not by Begin, End, Worker, operation, or Result.
func TestOrderIsByPlaceAlone(t *testing.T) {
	a, b := event(9, 9, 9, 9, 9, 9, 1, 9), event(1, 1, 1, 1, 1, 1, 2, 1)
	checkOrder(t, events(a, b), events(a, b))
	checkOrder(t, events(b, a), events(a, b))
}

func TestOrderOfFallingPlaces(t *testing.T) {
	var l []api.Event
	for _, place := range []int{math.MaxInt, 7, 3, 1, 0, -1, -7, math.MinInt} {
		l = append(l, at(place, f, 0, 0, 0))
	}
	want := slices.Clone(l)
	slices.Reverse(want)
	checkOrder(t, l, want)
	checkOrder(t, want, want)
}

func TestOrderOfOnePlace(t *testing.T) {
	// Those of one Place: side by side, and apart. Nothing else tells which was first.
	a, b, c := event(5, f, 0, 0, 0, 9, 4, 1), event(1, u, 3, 3, 0, 2, 4, 8), event(3, s, 2, 2, 1, 5, 4, 5)
	low, high := at(3, f, 0, 0, 0), at(5, f, 0, 0, 0)
	checkOrder(t, events(a, b, c), events(a, b, c))
	checkOrder(t, events(c, b, a), events(c, b, a))
	checkOrder(t, events(b, a), events(b, a))
	checkOrder(t, events(high, b, low, a, high, c, low), events(low, low, b, a, c, high, high))
	checkOrder(t, events(c, high, a, b, low), events(low, c, a, b, high))
}

// All lists of few places; the number of each worker tells where it stood.
func TestOrderOfAllSmallLists(t *testing.T) {
	for n := range 7 {
		lists.Each(n, lists.Span(-1, 2), func(places []int) {
			l := placed(places)
			checkOrder(t, l, plainOrder(l))
		})
	}
}

// placed tells an event a place, of workers 0, 1, ..
func placed(places []int) []api.Event {
	var l []api.Event
	for w, place := range places {
		l = append(l, event(w, f, 0, 0, 0, place, place, place))
	}
	return l
}

func TestOrderOfMany(t *testing.T) {
	for seed, few := range []int{1, 2, 3, 10, 1000, 1 << 30} {
		next := plays.Below(seed)
		var places []int
		for range 2000 {
			places = append(places, next(few)-few/2)
		}
		l := placed(places)
		checkOrder(t, l, plainOrder(l))
	}
}

// Promise 6.2, Legal: n, and no events.

func TestLegalOfNoEvents(t *testing.T) {
	for _, n := range []int{0, 1, 2, 100, 1<<16 - 1, 1 << 16} {
		if !Legal(n, nil) || !Legal(n, events()) {
			t.Errorf("Legal(%d) of no events is false", n)
		}
	}
	for _, n := range []int{-1, -2, -1 << 16, math.MinInt, 1<<16 + 1, 1 << 17, 1 << 32, math.MaxInt} {
		if Legal(n, nil) || Legal(n, events()) || Legal(n, events(at(1, f, 0, 0, 0))) {
			t.Errorf("Legal(%d) is true", n)
		}
	}
}

// check checks Legal of n and l, and that l stands as it did.
func check(t *testing.T, n int, l []api.Event, want bool) {
	t.Helper()
	was := slices.Clone(l)
	if Legal(n, l) != want {
		t.Errorf("Legal(%d, %v) is not %v", n, l, want)
	}
	if plainLegal(n, l) != want {
		t.Errorf("the plain Legal(%d, %v) is not %v", n, l, want)
	}
	if !slices.Equal(l, was) {
		t.Errorf("what was handed in is now %v, was %v", l, was)
	}
}

func TestLegalOfTheMostElements(t *testing.T) {
	last := 1<<16 - 1
	l := events(at(1, u, 0, last, 1), at(2, f, last, 0, 0), at(3, f, last-1, 0, last-1), at(4, s, 0, last, 1))
	check(t, 1<<16, l, true)
	check(t, last, l, false)
	check(t, 1<<16+1, l, false)
	check(t, 1<<16, append(l, at(5, f, last+1, 0, last+1)), false)
}

func TestLegal(t *testing.T) {
	check(t, 4, right(), true)
	check(t, 3, right(), false) // element 3 is not there
	check(t, 5, right(), true)
	l := right()
	slices.Reverse(l)
	check(t, 4, l, true)
	check(t, 4, Order(l), true)
	for i := range l {
		check(t, 4, slices.Delete(right(), i, i+1), i == 1 || i == 2 || i >= 4) // without a uniting that tells 1: false
	}
}

// Promise 6.2, Legal: times.

func TestLegalOfTimes(t *testing.T) {
	const high = math.MaxInt
	for _, c := range []struct {
		begin, place, end int
		want              bool
	}{
		{1, 1, 1, true}, {1, 2, 3, true}, {1, 1, 2, true}, {1, 2, 2, true}, {5, 7, 9, true},
		{1, 1, high, true}, {1, high, high, true}, {high, high, high, true},
		{0, 1, 1, false}, {0, 0, 0, false}, {0, 0, 1, false}, {-1, 1, 1, false}, {-1, -1, -1, false}, // Begin
		{math.MinInt, 1, 1, false}, {math.MinInt, math.MinInt, math.MinInt, false},
		{2, 1, 2, false}, {2, 1, 1, false}, {1, 0, 1, false}, {1, -1, 1, false}, {1, math.MinInt, 1, false}, // Place
		{high, high - 1, high, false},
		{1, 2, 1, false}, {2, 3, 1, false}, {1, 1, 0, false}, {1, 1, -1, false}, {1, 1, math.MinInt, false}, // End
		{high, high, high - 1, false}, {1, high, 1, false},
	} {
		check(t, 2, events(event(0, f, 0, 0, 0, c.begin, c.place, c.end)), c.want)
	}
}

func TestLegalOfTimesOfEachEvent(t *testing.T) {
	for i := range right() {
		check(t, 4, with(i, func(e *api.Event) { e.Begin = 0 }), false)
		check(t, 4, with(i, func(e *api.Event) { e.Begin = -1 }), false)
		check(t, 4, with(i, func(e *api.Event) { e.Begin = e.Place + 1 }), false)
		check(t, 4, with(i, func(e *api.Event) { e.Place = e.Begin - 1 }), false)
		check(t, 4, with(i, func(e *api.Event) { e.End = e.Place - 1 }), false)
		check(t, 4, with(i, func(e *api.Event) { e.Place = e.End + 1 }), false)
	}
	check(t, 4, with(0, func(e *api.Event) { e.Place = e.Begin }), true)
	check(t, 4, with(0, func(e *api.Event) { e.Place = e.End }), true)
}

// Promise 6.2, Legal: places.

func TestLegalOfOnePlace(t *testing.T) {
	a, b := event(0, f, 0, 0, 0, 1, 3, 5), event(1, f, 1, 0, 1, 1, 3, 5)
	check(t, 2, events(a, b), false)
	check(t, 2, events(b, a), false)
	check(t, 2, events(a, a), false)
	c, d := event(2, f, 0, 0, 0, 1, 2, 9), event(3, f, 0, 0, 0, 1, 4, 9)
	for _, l := range [][]api.Event{
		{a, b, c, d}, {a, c, b, d}, {c, a, d, b}, {a, c, d, b}, {c, d, a, b}, {a, c, b, a}, {b, d, c, b},
	} {
		check(t, 2, l, false)
	}
	check(t, 2, events(a, c, d), true)
	check(t, 2, events(d, b, c), true)
	check(t, 1, events(at(3, f, 0, 0, 0), at(3+1<<16, f, 0, 0, 0), at(3+1<<32, f, 0, 0, 0)), true)
}

// Side by side and apart, in the right history: each event takes each other one's place.
func TestLegalOfEachTwoOfOnePlace(t *testing.T) {
	for i := range right() {
		for j, other := range right() {
			if i != j {
				check(t, 4, with(i, func(e *api.Event) { e.Worker, e.Begin, e.Place, e.End = 9, 1, other.Place, 99 }), false)
			}
		}
	}
}

// Promise 6.2, Legal: workers.

// finds tells events of finds of worker w, one a pair of Begin and End; the places are the ends.
func finds(w int, times ...[2]int) []api.Event {
	var l []api.Event
	for _, x := range times {
		l = append(l, event(w, f, 0, 0, 0, x[0], x[1], x[1]))
	}
	return l
}

func TestLegalOfTwoOfOneWorker(t *testing.T) {
	for _, c := range []struct {
		a, b [2]int
		want bool
	}{
		{[2]int{1, 3}, [2]int{4, 6}, true},  // End is below Begin
		{[2]int{1, 3}, [2]int{9, 10}, true}, // and far below
		{[2]int{2, 2}, [2]int{3, 3}, true},
		{[2]int{1, 3}, [2]int{3, 6}, false}, // the same
		{[2]int{1, 3}, [2]int{2, 6}, false}, // above
		{[2]int{1, 3}, [2]int{1, 6}, false},
		{[2]int{1, 6}, [2]int{2, 3}, false}, // within the other one
		{[2]int{1, 6}, [2]int{2, 7}, false},
		{[2]int{1, math.MaxInt}, [2]int{5, 6}, false},
		{[2]int{1, 6}, [2]int{7, math.MaxInt}, true},
	} {
		for _, w := range []int{0, 1, 63, 64, 1000, -1, math.MinInt, math.MaxInt} {
			check(t, 1, finds(w, c.a, c.b), c.want)
			check(t, 1, finds(w, c.b, c.a), c.want)
			check(t, 1, slices.Concat(finds(w, c.a), finds(w/2+7, [2]int{1, 20}), finds(w, c.b)), c.want)
			if c.a[1] != c.b[1] {
				check(t, 1, append(finds(w, c.a), finds(w/2+7, c.b)...), true) // of two workers
			}
		}
	}
}

func TestLegalOfMoreOfOneWorker(t *testing.T) {
	times := [][2]int{{1, 2}, {3, 3}, {4, 9}, {12, 12}, {13, 15}}
	for i := range times {
		for j := range times {
			l := slices.Clone(times)
			l[i], l[j] = l[j], l[i]
			check(t, 1, finds(5, l...), true)
			// One more that the one of them has not ended ahead of, wherever it stands.
			check(t, 1, finds(5, slices.Insert(l, j, [2]int{times[i][1], 99})...), false)
		}
		// One that is under way with all that follow.
		l := slices.Clone(times)
		l[i][1] = 50
		check(t, 1, finds(5, l...), i == len(l)-1)
	}
}

// One that goes on beyond the one behind it, which ends ahead of the third one's begin.
func TestLegalOfALongOneOfAWorker(t *testing.T) {
	check(t, 1, finds(0, [2]int{1, 9}, [2]int{2, 3}, [2]int{5, 6}), false)
	check(t, 1, finds(0, [2]int{5, 6}, [2]int{1, 9}, [2]int{2, 3}), false)
	check(t, 1, finds(0, [2]int{2, 3}, [2]int{5, 6}, [2]int{1, 9}), false)
}

func TestLegalOfManyWorkers(t *testing.T) {
	var l []api.Event
	for w := range 100 {
		l = append(l, finds(w*1000-50, [2]int{1, 300 + w})...) // all at once, one each
	}
	check(t, 1, l, true)
	for w := range 100 {
		l = append(l, finds(w*1000-50, [2]int{600, 900 + w})...)
	}
	check(t, 1, l, true)
	l[150].Begin = l[50].End
	check(t, 1, l, false)
	l[150].Begin++
	check(t, 1, l, true)
}

// The greatest and the least number of a worker, and one between, in mixed orders.
func TestLegalOfWorkersFarApart(t *testing.T) {
	var fine []api.Event
	for i, w := range []int{math.MinInt, -1, math.MaxInt} {
		fine = append(fine, finds(w, [2]int{1, 10 + i}, [2]int{20, 30 + i})...)
	}
	next := plays.Below(1)
	for range 300 {
		i, j := next(len(fine)), next(len(fine))
		fine[i], fine[j] = fine[j], fine[i]
		check(t, 1, fine, true)
		for k := range fine {
			wrong := slices.Clone(fine)
			wrong[k].Begin = 1 // the second one of its worker is under way with the first one then
			check(t, 1, wrong, fine[k].Begin == 1)
		}
	}
}

// Promise 6.2, Legal: by Order.

func TestLegalIsByPlaces(t *testing.T) {
	// The list says that it was asked ahead of the uniting; the places say behind it, and the other way round.
	for _, c := range []struct{ asked, united, are int }{{5, 3, 1}, {3, 5, 0}} {
		unite, ask := event(0, u, 0, 1, 1, 1, c.united, 9), event(1, s, 0, 1, c.are, 1, c.asked, 9)
		wrong := event(1, s, 0, 1, 1-c.are, 1, c.asked, 9)
		check(t, 2, events(ask, unite), true)
		check(t, 2, events(unite, ask), true)
		check(t, 2, events(wrong, unite), false)
		check(t, 2, events(unite, wrong), false)
	}
	// Neither begins nor ends say it.
	check(t, 2, events(event(0, u, 0, 1, 1, 1, 6, 6), event(1, s, 0, 1, 0, 2, 5, 9)), true)
	check(t, 2, events(event(0, u, 0, 1, 1, 2, 3, 9), event(1, s, 0, 1, 1, 1, 4, 5)), true)
}

// Promise 6.2, Legal: results.

// nowhere are numbers that are no element of n.
func nowhere(n int) []int {
	return []int{-1, -2, -n, -n - 1, math.MinInt, n, n + 1, 2*n + 1, 1 << 16, 1 << 32, 1<<32 + 1, math.MaxInt}
}

// behind tells that event behind unitings of 0 and 2, and of 3 and 4.
func behind(e api.Event) []api.Event {
	return events(at(1, u, 0, 2, 1), at(2, u, 4, 3, 1), e)
}

func TestLegalOfFind(t *testing.T) {
	// Elements 0 and 2 are of one class, 3 and 4 are, 1 and 5 are alone.
	class := []int{0, 1, 0, 3, 3, 5}
	for x := range class {
		for y := range class {
			check(t, 6, behind(at(3, f, x, 0, y)), class[x] == class[y])
			check(t, 6, events(at(3, f, x, 0, y)), x == y)
		}
		for _, no := range nowhere(6) {
			check(t, 6, behind(at(3, f, x, 0, no)), false)
			check(t, 6, behind(at(3, f, no, 0, x)), false)
			check(t, 6, behind(at(3, f, no, x, no)), false)
			check(t, 6, behind(at(3, f, x, no, x)), true) // Y is not asked
		}
	}
	for _, x := range append(nowhere(1), 0) {
		check(t, 0, events(at(1, f, x, x, x)), false)
	}
}

func TestLegalOfSameAndUnite(t *testing.T) {
	class := []int{0, 1, 0, 3, 3, 5}
	for x := range class {
		for y := range class {
			for result := -2; result < 7; result++ {
				are := class[x] == class[y]
				check(t, 6, behind(at(3, s, x, y, result)), are && result == 1 || !are && result == 0)
				check(t, 6, behind(at(3, u, x, y, result)), are && result == 0 || !are && result == 1)
			}
		}
	}
	for _, result := range []int{math.MinInt, math.MaxInt, 1 << 32, 1<<32 + 1} {
		for _, kind := range []int{s, u} {
			check(t, 6, behind(at(3, kind, 0, 1, result)), false)
			check(t, 6, behind(at(3, kind, 0, 2, result)), false)
		}
	}
}

func TestLegalOfElementsThatAreNone(t *testing.T) {
	for _, kind := range []int{s, u} {
		for result := range 2 {
			for _, no := range nowhere(6) {
				for x := range 6 {
					check(t, 6, behind(at(3, kind, x, no, result)), false)
					check(t, 6, behind(at(3, kind, no, x, result)), false)
				}
				check(t, 6, behind(at(3, kind, no, no, result)), false)
				check(t, 6, behind(at(3, kind, no, -7, result)), false)
			}
			check(t, 0, events(at(1, kind, 0, 0, result)), false)
		}
	}
}

// A uniting that tells 0 and one that tells 1 are done; a chain of them makes one class.
func TestLegalOfChains(t *testing.T) {
	l := events(at(1, u, 4, 3, 1), at(2, u, 2, 1, 1), at(3, s, 1, 4, 0), at(4, u, 3, 2, 1), at(5, s, 1, 4, 1),
		at(6, u, 1, 4, 0), at(7, f, 4, 0, 1), at(8, f, 1, 0, 4), at(9, s, 0, 4, 0), at(10, u, 0, 3, 1), at(11, s, 0, 1, 1),
		at(12, f, 2, 0, 0), at(13, s, 5, 0, 0))
	check(t, 6, l, true)
	for i := range l {
		wrong := slices.Clone(l)
		wrong[i].Result = 1 - wrong[i].Result
		if l[i].Op.Kind == f {
			wrong[i].Result = 5
		}
		check(t, 6, wrong, false)
	}
}

func TestLegalOfOtherKinds(t *testing.T) {
	for _, kind := range []int{0, -1, 4, 5, 1 << 32, 1<<32 + 1, math.MinInt, math.MaxInt} {
		for result := range 3 {
			check(t, 6, events(at(1, kind, 0, 0, result)), false)
			check(t, 6, events(at(1, kind, 0, 1, result)), false)
			check(t, 6, behind(at(3, kind, 0, 2, result)), false)
		}
	}
}

// A wrong event makes the history wrong wherever it stands, in the list and by its place.
func TestLegalOfOneWrongEvent(t *testing.T) {
	wrong := events(
		event(7, f, 0, 0, -1, 1, 4, 99), event(7, f, 4, 0, 4, 1, 4, 99), event(7, f, 3, 0, 0, 1, 4, 99),
		event(7, s, 3, 0, 1, 1, 4, 99), event(7, s, 3, 3, 0, 1, 4, 99), event(7, s, 3, 4, 0, 1, 4, 99),
		event(7, u, 3, 3, 1, 1, 4, 99), event(7, u, 4, 3, 1, 1, 4, 99), event(7, u, 3, 4, 0, 1, 4, 99),
		event(7, 0, 0, 0, 0, 1, 4, 99), event(7, 4, 0, 0, 1, 1, 4, 99),
		event(7, f, 0, 0, 0, 0, 4, 99), event(7, f, 0, 0, 0, 200, 4, 99), event(7, f, 0, 0, 0, 1, 4, -1),
	)
	fine := event(7, f, 0, 0, 0, 1, 4, 99)
	for i := range len(right()) + 1 {
		for _, place := range []int{1, 3, 4, 9, 10, 13, 98} {
			fine.Place = place
			check(t, 4, slices.Insert(right(), i, fine), true)
			for _, e := range wrong {
				e.Place = place
				check(t, 4, slices.Insert(right(), i, e), false)
			}
		}
	}
}

// Of each history that is drawn, and of what becomes of it when a number is changed.
func TestLegalIsThePlainOne(t *testing.T) {
	count := 0
	for seed := range 1500 {
		prio, scripts, picks := plays.Drawn(seed)
		l, _, _ := play.Play(prio, scripts, picks)
		next := plays.Below(seed + 5000)
		for range 12 {
			changed := slices.Clone(l)
			for range 1 + next(2) {
				change(changed, next)
			}
			want := plainLegal(len(prio), changed)
			if got := Legal(len(prio), changed); got != want {
				t.Fatalf("Legal(%d, %v) is %v", len(prio), changed, got)
			}
			if want {
				count++
			}
		}
	}
	if count < 1000 || count > 17000 {
		t.Errorf("%d of 18000 are legal", count)
	}
}

// change changes a number of an event of l by little, or puts two events in each other's place of the list.
func change(l []api.Event, next func(n int) int) {
	if len(l) == 0 {
		return
	}
	e, other := &l[next(len(l))], &l[next(len(l))]
	by := next(5) - 2
	switch next(10) {
	case 0:
		e.Worker += by
	case 1:
		e.Op.Kind += by
	case 2:
		e.Op.X += by
	case 3:
		e.Op.Y += by
	case 4:
		e.Result += by
	case 5:
		e.Begin += by
	case 6:
		e.Place += by
	case 7:
		e.End += by
	case 8:
		e.Place, other.Place = other.Place, e.Place
	default:
		*e, *other = *other, *e
	}
}

// As many unitings as can tell 1 of the most elements, in orders that make long ways.
func TestTheMostUnitings(t *testing.T) {
	const n = 1 << 16
	for i, pair := range []func(i int) (x, y int){
		func(i int) (x, y int) { return i, i + 1 },
		func(i int) (x, y int) { return n - 2 - i, n - 1 - i },
		func(i int) (x, y int) { return n - 1, n - 2 - i },
		func(i int) (x, y int) { return i, n - 1 },
	} {
		var l []api.Event
		for i := range n - 1 {
			x, y := pair(i)
			l = append(l, at(i+1, u, x, y, 1))
		}
		if !slices.Equal(Final(n, l), lists.Of(n, 0)) {
			t.Errorf("order %d leaves more than one class", i)
		}
		l = append(l, at(n, s, 1, n-1, 1), at(n+1, u, n/2, 3, 0), at(n+2, f, n-1, 0, 1))
		if !Legal(n, l) {
			t.Errorf("order %d is not legal", i)
		}
		l[n].Result = 1
		if Legal(n, l) {
			t.Errorf("order %d is legal, with one uniting too many", i)
		}
	}
}

// Promise 6.2, Final.

// checkFinal checks Final of n and l, and that l stands as it did.
func checkFinal(t *testing.T, n int, l []api.Event, want []int) {
	t.Helper()
	was := slices.Clone(l)
	if got := Final(n, l); !slices.Equal(got, want) {
		t.Errorf("Final(%d, %v) tells %v, want %v", n, l, got, want)
	}
	if !slices.Equal(l, was) {
		t.Errorf("what was handed in is now %v, was %v", l, was)
	}
}

func TestFinal(t *testing.T) {
	checkFinal(t, 4, right(), []int{0, 0, 0, 3})
	checkFinal(t, 3, right(), []int{0, 0, 0})
	checkFinal(t, 2, right(), []int{0, 0}) // 2 is not there
	l := right()
	slices.Reverse(l)
	checkFinal(t, 4, l, []int{0, 0, 0, 3})
	checkFinal(t, 5, events(at(1, u, 4, 3, 1), at(2, u, 1, 3, 1)), []int{0, 1, 2, 1, 1})
	checkFinal(t, 3, events(at(1, u, 2, 0, 1)), []int{0, 1, 0})
	for _, n := range []int{1, 2, 70} {
		checkFinal(t, n, nil, lists.Span(0, n-1))
		checkFinal(t, n, events(), lists.Span(0, n-1))
	}
}

func TestFinalOfNoElements(t *testing.T) {
	for _, n := range []int{0, -1, -2, -1 << 16, math.MinInt} {
		checkFinal(t, n, nil, nil)
		checkFinal(t, n, right(), nil)
		checkFinal(t, n, events(at(1, u, 0, 0, 0), at(2, u, -1, -2, 1), at(3, u, n, n, 1)), nil)
	}
}

// As New of that many: of no more than the most.
func TestFinalOfTheMost(t *testing.T) {
	last := 1<<16 - 1
	l := events(at(1, u, last, 5, 1), at(2, u, last+1, 3, 1))
	want := lists.Span(0, last)
	want[last] = 5
	for _, n := range []int{1 << 16, 1<<16 + 1, 1 << 32, math.MaxInt} {
		if got := Final(n, l); !slices.Equal(got, want) {
			t.Errorf("Final(%d) of two tells %d elements", n, len(got))
		}
	}
	if got := Final(last, l); !slices.Equal(got, lists.Span(0, last-1)) {
		t.Errorf("Final(%d) of two tells %d elements", last, len(got))
	}
}

func TestFinalOfElementsThatAreNone(t *testing.T) {
	for _, no := range nowhere(6) {
		for x := range 6 {
			l := events(at(1, u, x, no, 1), at(2, u, no, x, 1), at(3, u, no, no, 1), at(4, u, no, -7, 0))
			checkFinal(t, 6, l, lists.Span(0, 5))
			checkFinal(t, 6, append(l, at(5, u, 2, 5, 1)), []int{0, 1, 2, 3, 4, 2})
		}
	}
}

// All that are unitings count: what they told, and when, and who did them, is not asked.
func TestFinalOfEachUniting(t *testing.T) {
	for _, result := range []int{0, 1, 2, -1, math.MinInt, math.MaxInt} {
		checkFinal(t, 3, events(at(1, u, 1, 2, result)), []int{0, 1, 1})
		checkFinal(t, 3, events(event(-9, u, 1, 2, result, 0, -5, -9), event(-9, u, 0, 1, result, 0, -5, -9)), []int{0, 0, 0})
	}
	checkFinal(t, 3, events(at(1, u, 1, 2, 1), at(2, u, 1, 2, 1), at(3, u, 2, 1, 0), at(4, u, 0, 0, 0)), []int{0, 1, 1})
}

func TestFinalOfOtherKinds(t *testing.T) {
	for _, kind := range []int{f, s, 0, -1, -3, 4, 6, 7, 1<<32 + 3, math.MinInt, math.MaxInt} {
		for result := range 2 {
			checkFinal(t, 3, events(at(1, kind, 0, 1, result)), []int{0, 1, 2})
			checkFinal(t, 3, events(at(1, kind, 0, 1, result), at(2, u, 1, 2, 1), at(3, kind, 0, 1, result)), []int{0, 1, 1})
		}
	}
}

// Promise 6.3.

// checkPlay checks that what Play tells is legal, and what is left is its Final.
func checkPlay(t *testing.T, prio []int, scripts [][]api.Op, picks []int) {
	t.Helper()
	n := len(prio)
	l, up, _ := play.Play(prio, scripts, picks)
	if !Legal(n, l) {
		t.Fatalf("Play(%v, %v, %v) tells %v, which is not legal", prio, scripts, picks, l)
	}
	final := Final(n, l)
	if !part.May(final) || len(up) != n {
		t.Fatalf("of %v there is left %v", l, final)
	}
	// Two are of one class where they have one root: where each has the root of its least, and leasts have others.
	roots := make(map[int]int)
	for x, least := range final {
		root := cuf.Root(up, x)
		if x == least {
			roots[root]++
		}
		if root != cuf.Root(up, least) || roots[root] != 1 {
			t.Fatalf("of %v there is left %v, and the cells are %v", l, final, up)
		}
	}
}

func TestWhatPlayTells(t *testing.T) {
	for seed := range 3000 {
		prio, scripts, picks := plays.Drawn(seed)
		checkPlay(t, prio, scripts, picks)
	}
	plays.OfTwo(func(prio []int, scripts [][]api.Op, picks []int) { checkPlay(t, prio, scripts, picks) })
}

func TestWhatPlayTellsOfOneWorker(t *testing.T) {
	for n := range 5 {
		checkPlay(t, lists.Of(n, 0), nil, nil)
		checkPlay(t, lists.Span(1, n), [][]api.Op{plays.Ops(n), nil}, []int{3, -1})
		checkPlay(t, lists.Of(n, 7), [][]api.Op{plays.Ops(n + 1)}, nil) // some may not begin
	}
	back := plays.Ops(6)
	slices.Reverse(back)
	checkPlay(t, lists.Of(6, 0), [][]api.Op{back}, nil)
}

func TestWhatPlayTellsOfTheMostWorkers(t *testing.T) {
	const n = 9
	scripts := make([][]api.Op, api.MaxWorkers)
	for w := range scripts {
		next := plays.Below(w)
		for range 20 {
			scripts[w] = append(scripts[w], plays.Ops(n)[next(len(plays.Ops(n)))])
		}
	}
	for seed := range 20 {
		next := plays.Below(seed + 100)
		var picks []int
		for range seed * 500 {
			picks = append(picks, next(1000)-500)
		}
		checkPlay(t, lists.Of(n, 0), scripts, picks)
	}
}

// With another result of any question or uniting it is not legal.
func TestWhatPlayDoesNotTell(t *testing.T) {
	for seed := range 300 {
		prio, scripts, picks := plays.Drawn(seed)
		l, _, _ := play.Play(prio, scripts, picks)
		for i, e := range l {
			changed := slices.Clone(l)
			changed[i].Result = 1 - e.Result
			if e.Op.Kind != f && Legal(len(prio), changed) {
				t.Fatalf("%v is legal", changed)
			}
		}
	}
}

// R1: whatever is handed in, each call ends, does not panic, and tells the same again.

func TestWhateverIsHandedIn(t *testing.T) {
	wild := []int{math.MinInt, -1, 0, 1, 2, 3, 4, math.MaxInt}
	numbers := append(wild, 1<<16, 1<<16+1, 1<<32)
	for seed := range 3000 {
		next := plays.Below(seed)
		some := func() int { return wild[next(len(wild))] }
		var l []api.Event
		for range next(5) {
			l = append(l, event(some(), some(), some(), some(), some(), some(), some(), some()))
		}
		n := numbers[next(len(numbers))]
		check(t, n, l, plainLegal(n, l))
		checkOrder(t, l, plainOrder(l))
		checkFinal(t, n, l, Final(n, l))
	}
}

// R3: what is handed in, what is told.

// none is an event that stands in no history.
func none() api.Event { return event(-7, -7, -7, -7, -7, -7, -7, -7) }

func TestNothingHandedInIsChanged(t *testing.T) {
	more := event(3, u, 0, 3, 1, 1, 13, 13)
	l, was := lists.Roomy(right(), more), lists.Roomy(right(), more)
	order, final := Order(l), Final(4, l)
	if !Legal(4, l) || !slices.Equal(final, []int{0, 0, 0, 3}) || !slices.Equal(order, plainOrder(right())) {
		t.Error("spare room is looked at")
	}
	lists.Scribble(append(order, none()), none())
	lists.Scribble(order, none())
	lists.Scribble(append(final, -77), -77)
	lists.Scribble(final, -77)
	if !slices.Equal(l[:cap(l)], was[:cap(was)]) {
		t.Errorf("what was handed in is now %v", l[:cap(l)])
	}
}

func TestWhatIsToldIsNewMemory(t *testing.T) {
	for _, was := range [][]api.Event{right(), Order(right()), nil, {}, right()[:1]} {
		l := lists.Roomy(was, none())
		order, other, final, more := Order(l), Order(l), Final(4, l), Final(4, l)
		lists.Scribble(l, none())
		lists.Scribble(append(other, none()), none())
		lists.Scribble(other, none())
		lists.Scribble(append(more, -77), -77)
		lists.Scribble(more, -77)
		if !slices.Equal(order, plainOrder(was)) || !slices.Equal(final, Final(4, was)) {
			t.Errorf("what was told of %v became %v and %v", was, order, final)
		}
	}
}
