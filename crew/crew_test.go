package crew

import (
	"math"
	"slices"
	"testing"

	"warp/lists"
	"warp/pick"
	"warp/plays"
)

func TestCount(t *testing.T) {
	for _, c := range []struct {
		l    [][]int
		want int
	}{{nil, 0}, {[][]int{}, 0}, {[][]int{nil, {}}, 0}, {[][]int{{7}}, 1}, {[][]int{{1, 2}, nil, {3}, {4, 5, 6}}, 6}} {
		if got := Count(c.l); got != c.want {
			t.Errorf("Count(%v) = %d, want %d", c.l, got, c.want)
		}
	}
	if Count(slices.Repeat([][]string{{"a", "b"}}, 100)) != 200 {
		t.Error("of texts")
	}
	// Spare room does not count.
	if Count([][]int{lists.Roomy([]int{1, 2}, 3)}) != 2 {
		t.Error("with spare room")
	}
}

// checkTurns checks that turns by the picks go as Next (2) of Start of them does, of those enabled at each time.
func checkTurns(t *testing.T, picks []int, times [][]bool) {
	t.Helper()
	turns, p := By(picks), pick.Start(picks)
	for i, enabled := range times {
		var want int
		want, p = pick.Next(p, enabled)
		if got := turns.Next(enabled); got != want {
			t.Fatalf("by %v, of %v, time %d: got %d, want %d", picks, times, i+1, got, want)
		}
	}
}

func TestNext(t *testing.T) {
	all, none, ends := []bool{true, true, true}, []bool{false, false, false}, []bool{true, false, true}
	turns := By([]int{1, 2})
	for i, c := range []struct {
		enabled []bool
		want    int
	}{{all, 1}, {none, -1}, {nil, -1}, {ends, 0}, {all, 1}, {ends, 2}, {none, -1}, {ends, 0}, {ends, 2}, {all, 0}} {
		if got := turns.Next(c.enabled); got != c.want {
			t.Errorf("time %d: got %d, want %d", i+1, got, c.want)
		}
	}
	for _, picks := range [][]int{nil, {}, {0}, {2}, {-1, 5}, {math.MinInt, math.MaxInt, 0, 1}, lists.Span(-9, 9)} {
		checkTurns(t, picks, [][]bool{all, all, ends, none, ends, all, {}, nil, {false, true}, {true}, all, ends, all, all})
		checkTurns(t, picks, slices.Repeat([][]bool{all}, 30))
	}
}

func TestNextOfDrawn(t *testing.T) {
	for seed := range 2000 {
		next := plays.Below(seed)
		var picks []int
		for range next(20) {
			picks = append(picks, next(200)-100)
		}
		times := make([][]bool, next(40))
		for i := range times {
			times[i] = make([]bool, next(70))
			for w := range times[i] {
				times[i][w] = next(4) == 0
			}
		}
		checkTurns(t, picks, times)
	}
}

// Many picks cost no more at each time than few.
func TestManyPicks(t *testing.T) {
	picks := lists.Roomy(lists.Span(0, 1<<20), -7)
	turns := By(picks)
	for i := range 1 << 20 {
		if got := turns.Next([]bool{true, true, true}); got != i%3 {
			t.Fatalf("time %d: got %d", i+1, got)
		}
	}
	want := lists.Roomy(lists.Span(0, 1<<20), -7)
	if !slices.Equal(picks[:cap(picks)], want[:cap(want)]) {
		t.Error("the picks were changed")
	}
}

// Turns go on as they were begun, though the one who handed the picks in writes into them.
func TestPicksAreNotKept(t *testing.T) {
	picks := lists.Roomy([]int{2, 0, 2}, -7)
	turns := By(picks)
	for _, want := range []int{2, 0, 2, 0} {
		lists.Scribble(picks, 1)
		if got := turns.Next([]bool{true, true, true}); got != want {
			t.Errorf("got %d, want %d", got, want)
		}
	}
}
