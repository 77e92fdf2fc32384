package lists

import (
	"slices"
	"testing"
)

func TestSpareRoom(t *testing.T) {
	l := []int{1, 2, 3}
	r := Roomy(l, 7)
	if !slices.Equal(r, l) || cap(r) < len(r)+spare || r[:4][3] != 7 {
		t.Errorf("Roomy tells %v", r[:cap(r)])
	}
	for i, x := range r[len(r):cap(r)][:spare] {
		if x != 7 {
			t.Errorf("place %d of the spare room is %d", i, x)
		}
	}
	r[0] = 9
	if !slices.Equal(l, []int{1, 2, 3}) {
		t.Errorf("what was handed in is now %v", l)
	}
}

func TestScribble(t *testing.T) {
	r := Roomy([]int{1, 2, 3}, 7)
	Scribble(r[:1], 5)
	if !slices.Equal(r[:cap(r)], Of(cap(r), 5)) {
		t.Errorf("Scribble leaves %v", r[:cap(r)])
	}
	Scribble([]int(nil), 5)
}

func TestShared(t *testing.T) {
	l, other := []int{1, 2, 3, 4}, []int{1, 2, 3, 4}
	for i, all := range [][][]int{{l, l}, {l, other, l}, {l[:1], l[2:]}, {other, l[2:3], l[:0]}, {l[:2:2], l[1:2:2]}} {
		if !Shared(all) {
			t.Errorf("%d: two lists share memory", i)
		}
	}
	for i, all := range [][][]int{nil, {l}, {nil, nil}, {l, nil, other}, {l[:2:2], other, l[2:]}, {l[:0:0], l, l[4:]}} {
		if Shared(all) {
			t.Errorf("%d: no two lists share memory", i)
		}
	}
}

func TestNumbers(t *testing.T) {
	if !slices.Equal(Span(-1, 2), []int{-1, 0, 1, 2}) || len(Span(0, -1)) != 0 || !slices.Equal(Of(3, 5), []int{5, 5, 5}) {
		t.Error("Span, Of")
	}
}

func TestEach(t *testing.T) {
	var all [][]int
	Each(2, []int{4, 6}, func(l []int) { all = append(all, l) })
	if !slices.EqualFunc(all, [][]int{{4, 4}, {4, 6}, {6, 4}, {6, 6}}, slices.Equal[[]int]) {
		t.Errorf("of two there are %v", all)
	}
	count := 0
	Each(0, nil, func(l []int) { count += 1 + len(l) })
	if count != 1 {
		t.Errorf("of none there are %d", count)
	}
}

func TestOrders(t *testing.T) {
	var all [][]int
	l := []int{4, 5, 6}
	Orders(l, func(l []int) { all = append(all, l) })
	want := [][]int{{4, 5, 6}, {4, 6, 5}, {5, 4, 6}, {5, 6, 4}, {6, 4, 5}, {6, 5, 4}}
	if !slices.EqualFunc(all, want, slices.Equal[[]int]) || !slices.Equal(l, want[0]) {
		t.Errorf("of %v there are %v", l, all)
	}
	count := 0
	Orders([]int{}, func(l []int) { count += 1 + len(l) })
	if count != 1 {
		t.Errorf("of none there are %d", count)
	}
}

func TestShuffle(t *testing.T) {
	seen := map[[3]int]int{}
	for x := range 6 {
		l := []int{4, 5, 6}
		Shuffle(func(n int) int { return x % 6 / max(n-1, 1) % n }, l)
		seen[[3]int(l)]++
		slices.Sort(l)
		if !slices.Equal(l, []int{4, 5, 6}) {
			t.Errorf("%d leaves %v", x, l)
		}
	}
	if len(seen) != 6 {
		t.Errorf("orders %v", seen)
	}
	Shuffle(func(int) int { return 0 }, []int(nil))
}
