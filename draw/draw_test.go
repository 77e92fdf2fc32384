package draw

import (
	"math"
	"slices"
	"testing"

	"warp/api"
	"warp/lists"
)

const all31 = 1<<31 - 1

// sample holds ordinary numbers, ones below 0, and ones above the lowest 31 bits; low is what is drawn of it.
func sample() []int {
	return []int{5, 0, all31, -1, -2, 1 << 31, 1<<31 + 9, 1<<32 - 1, 1<<40 + 3, math.MaxInt, math.MinInt}
}

func low() []int {
	return []int{5, 0, all31, all31, all31 - 1, 0, 9, all31, 3, all31, 0}
}

// checkDraws checks that d is as it was handed in, but for At.
func checkDraws(t *testing.T, d api.Draws, l []int, at int) {
	t.Helper()
	if d.At != at || !slices.Equal(d.L, l) {
		t.Errorf("draws: got %v at %d, want %v at %d", d.L, d.At, l, at)
	}
}

// Promise 1.1. The numbers were worked out by another program.

func TestMix(t *testing.T) {
	for _, c := range [][2]int{
		{0, 125198284}, {1, 679877257}, {2, 1134719295}, {3, 17065773}, {4, 445777171},
		{5, 656916658}, {6, 1904917351}, {255, 1659428720}, {1 << 16, 1101408129},
		{all31, 269738691}, {1 << 31, 1823638000}, {1<<31 + 1, 230601573}, {1<<32 - 1, 1968523503},
	} {
		if got := Mix(c[0]); got != c[1] {
			t.Errorf("Mix(%d) = %d, want %d", c[0], got, c[1])
		}
	}
}

func TestMixBelowNought(t *testing.T) {
	for _, c := range [][2]int{
		{-1, 1968523503}, {-2, 776535734}, {-1 << 31, 1823638000}, {-1<<31 - 1, 269738691},
		{-1 << 32, 125198284}, {math.MinInt, 125198284},
	} {
		if got := Mix(c[0]); got != c[1] {
			t.Errorf("Mix(%d) = %d, want %d", c[0], got, c[1])
		}
	}
}

func TestMixAbove32Bits(t *testing.T) {
	for _, c := range [][2]int{
		{1 << 32, 125198284}, {1<<32 + 7, 961449358}, {5<<32 + 255, 1659428720}, {math.MaxInt, 1968523503},
	} {
		if got := Mix(c[0]); got != c[1] {
			t.Errorf("Mix(%d) = %d, want %d", c[0], got, c[1])
		}
	}
}

func TestMixHas31Bits(t *testing.T) {
	seen := 0
	for n := range 1 << 12 {
		x := Mix(n)
		if x < 0 || x > all31 {
			t.Fatalf("Mix(%d) = %d has other than 31 bits", n, x)
		}
		seen |= x
	}
	if seen != all31 {
		t.Errorf("bits that some number has: %b", seen)
	}
}

// Promise 1.2, Next.

func TestNextExample(t *testing.T) {
	n, d := Next(api.Draws{L: []int{5}})
	if n != 5 {
		t.Errorf("got %d, want 5", n)
	}
	checkDraws(t, d, []int{5}, 1)
}

func TestNextWithinTheList(t *testing.T) {
	for at, want := range low() {
		n, d := Next(api.Draws{L: sample(), At: at})
		if n != want {
			t.Errorf("at %d of the list: got %d, want %d", at, n, want)
		}
		checkDraws(t, d, sample(), at+1)
	}
}

func TestNextBehindTheList(t *testing.T) {
	for _, c := range []struct {
		l            []int
		at, want, to int
	}{
		{nil, 0, 125198284, 1},
		{[]int{}, 0, 125198284, 1},
		{nil, 5, 656916658, 6},
		{[]int{8, 9}, 1, 9, 2},
		{[]int{8, 9}, 2, 1134719295, 3},
		{[]int{8, 9}, 3, 17065773, 4},
		{[]int{8, 9}, 1 << 16, 1101408129, 1<<16 + 1},
		{[]int{8, 9}, all31, 269738691, 1 << 31},
		{[]int{8, 9}, 1 << 31, 1823638000, 1<<31 + 1},
		{nil, 1 << 31, 1823638000, 1<<31 + 1},
	} {
		n, d := Next(api.Draws{L: c.l, At: c.at})
		if n != c.want {
			t.Errorf("at %d behind %v: got %d, want %d", c.at, c.l, n, c.want)
		}
		checkDraws(t, d, c.l, c.to)
	}
}

// What stands in the list's spare room is none of its numbers.
func TestNextBehindTheListWithSpareRoom(t *testing.T) {
	l := lists.Roomy([]int{8, 9}, 7)
	if n, _ := Next(api.Draws{L: l, At: 2}); n != 1134719295 {
		t.Errorf("got %d, want Mix(2)", n)
	}
}

// wrongAts are places at which nothing is drawn.
func wrongAts() []int {
	return []int{-1, -2, math.MinInt, 1<<31 + 1, 1 << 32, 1<<32 + 1, math.MaxInt}
}

func TestNextAtNoPlace(t *testing.T) {
	for _, l := range [][]int{nil, {5}, sample()} {
		for _, at := range wrongAts() {
			n, d := Next(api.Draws{L: l, At: at})
			if n != 0 {
				t.Errorf("at %d: got %d, want 0", at, n)
			}
			checkDraws(t, d, l, at)
		}
	}
}

// Promise 1.2, Many.

func TestManyIsNexts(t *testing.T) {
	for _, start := range []api.Draws{
		{}, {L: sample()}, {L: sample(), At: 3}, {L: []int{8, 9}, At: 2}, {L: []int{8, 9}, At: 40},
		{L: []int{8}, At: -3}, {L: []int{8}, At: all31 - 1}, {At: 1<<31 + 1},
	} {
		for n := range 20 {
			want, d := []int{}, start
			for range n {
				var x int
				x, d = Next(d)
				want = append(want, x)
			}
			got, e := Many(start, n)
			if !slices.Equal(got, want) {
				t.Errorf("Many(%v, %d) = %v, want %v", start, n, got, want)
			}
			checkDraws(t, e, d.L, d.At)
		}
	}
}

func TestManyAcrossTheListsEnd(t *testing.T) {
	got, d := Many(api.Draws{L: []int{8, -1, 1 << 31}, At: 1}, 4)
	if want := []int{all31, 0, 17065773, 445777171}; !slices.Equal(got, want) {
		t.Errorf("got %v, want %v", got, want)
	}
	checkDraws(t, d, []int{8, -1, 1 << 31}, 5)
}

func TestManyAcrossTheLastPlace(t *testing.T) {
	got, d := Many(api.Draws{L: []int{8}, At: all31}, 4)
	if want := []int{269738691, 1823638000, 0, 0}; !slices.Equal(got, want) {
		t.Errorf("got %v, want %v", got, want)
	}
	checkDraws(t, d, []int{8}, 1<<31+1)
}

func TestManyAtNoPlace(t *testing.T) {
	for _, at := range wrongAts() {
		got, d := Many(api.Draws{L: sample(), At: at}, 3)
		if want := []int{0, 0, 0}; !slices.Equal(got, want) {
			t.Errorf("at %d: got %v, want %v", at, got, want)
		}
		checkDraws(t, d, sample(), at)
	}
}

func TestManyOfNone(t *testing.T) {
	for _, n := range []int{0, -1, -5, math.MinInt, 1<<16 + 1, 1 << 17, 1 << 32, 1<<32 + 1, math.MaxInt} {
		for _, at := range []int{0, 2, len(sample()), 1 << 31, -1, 1<<31 + 1} {
			got, d := Many(api.Draws{L: sample(), At: at}, n)
			if len(got) != 0 {
				t.Errorf("Many of %d at %d: got %d numbers", n, at, len(got))
			}
			checkDraws(t, d, sample(), at)
		}
	}
}

func TestManyOfTheMost(t *testing.T) {
	for _, n := range []int{1<<16 - 1, 1 << 16} {
		got, d := Many(api.Draws{L: []int{8, 9}, At: 1}, n)
		if len(got) != n {
			t.Fatalf("Many of %d: got %d numbers", n, len(got))
		}
		for i, x := range got[1:] {
			if x != Mix(i+2) {
				t.Fatalf("number %d is %d, want Mix(%d)", i+1, x, i+2)
			}
		}
		if got[0] != 9 {
			t.Errorf("number 0 is %d, want 9", got[0])
		}
		checkDraws(t, d, []int{8, 9}, n+1)
	}
}

// Promise 1.3.

func TestManyInTwo(t *testing.T) {
	for _, start := range []api.Draws{
		{}, {L: sample()}, {L: sample(), At: 5}, {L: sample(), At: len(sample())}, {L: []int{8}, At: 1<<31 - 4}, {L: []int{8}, At: -1},
	} {
		for m := range 15 {
			for n := range 15 {
				checkInTwo(t, start, m, n)
			}
		}
	}
	for _, m := range []int{0, 1, 1000, 1 << 15, 1<<16 - 1, 1 << 16} {
		checkInTwo(t, api.Draws{L: sample(), At: 2}, m, 1<<16-m)
	}
}

// checkInTwo checks that Many of m and n is Many of m, and then of n.
func checkInTwo(t *testing.T, start api.Draws, m, n int) {
	t.Helper()
	whole, d := Many(start, m+n)
	a, mid := Many(start, m)
	b, e := Many(mid, n)
	if len(whole) != m+n || !slices.Equal(whole, slices.Concat(a, b)) {
		t.Errorf("Many(%v, %d and %d) is not that of the one, then of the other", start, m, n)
	}
	checkDraws(t, e, d.L, d.At)
}

// R3 and R4: what is handed in, what is told. Whether draws that are told again share their L with what was
// handed in is not asked here: R4 says of them that they are as they are.

func TestNothingHandedInIsChanged(t *testing.T) {
	l := lists.Roomy(sample(), 7)
	was := slices.Clone(l[:cap(l)])
	for at := -1; at < cap(l)+2; at++ {
		d := api.Draws{L: l, At: at}
		Next(d)
		for _, n := range []int{-1, 0, 1, 5, 40, 1<<16 + 1} {
			Many(d, n)
		}
		if !slices.Equal(l[:cap(l)], was) {
			t.Fatalf("at %d: what was handed in is now %v", at, l[:cap(l)])
		}
		checkDraws(t, d, sample(), at)
	}
}

// scribble writes into l, and into its spare room.
func scribble(l []int) {
	l = l[:cap(l)]
	for i := range l {
		l[i] = -77
	}
}

func TestWritingIntoManyChangesNoDraws(t *testing.T) {
	l := lists.Roomy([]int{1, 2, 3, 4, 5, 6}, 7)
	was := slices.Clone(l[:cap(l)])
	for _, c := range [][2]int{{0, 6}, {1, 3}, {0, 8}, {6, 4}, {4, 1}} {
		got, d := Many(api.Draws{L: l, At: c[0]}, c[1])
		scribble(append(got, -77))
		scribble(got)
		if !slices.Equal(l[:cap(l)], was) {
			t.Errorf("what was handed in is now %v", l[:cap(l)])
		}
		checkDraws(t, d, was[:6], c[0]+c[1])
	}
}

func TestWritingIntoDrawsChangesNoMany(t *testing.T) {
	got, d := Many(api.Draws{L: []int{1, 2, 3, 4}}, 4)
	scribble(d.L)
	if want := []int{1, 2, 3, 4}; !slices.Equal(got, want) {
		t.Errorf("got %v, want %v", got, want)
	}
}

func TestManysShareNothing(t *testing.T) {
	a, _ := Many(api.Draws{L: []int{1, 2, 3}}, 5)
	b, _ := Many(api.Draws{L: []int{1, 2, 3}}, 5)
	scribble(append(a, -77))
	scribble(a)
	c, _ := Many(api.Draws{L: []int{1, 2, 3}}, 5)
	for _, l := range [][]int{b, c} {
		if want := []int{1, 2, 3, 17065773, 445777171}; !slices.Equal(l, want) {
			t.Errorf("got %v, want %v", l, want)
		}
	}
}

func TestNothingIsKept(t *testing.T) {
	l := []int{1, 2, 3}
	n, told := Next(api.Draws{L: l})
	scribble(l)
	scribble(told.L)
	again, d := Next(api.Draws{L: []int{1, 2, 3}})
	if n != 1 || again != 1 {
		t.Errorf("got %d and then %d, want 1", n, again)
	}
	checkDraws(t, d, []int{1, 2, 3}, 1)
	if n, _ := Next(api.Draws{L: l}); n != -77&all31 {
		t.Errorf("got %d of what was written into L", n)
	}
}

func TestDrawsToldAgainAreAsTheyAre(t *testing.T) {
	for _, at := range []int{0, 3, len(sample()), 1 << 31} {
		_, d := Next(api.Draws{L: sample(), At: at})
		checkDraws(t, d, sample(), at+1)
		_, d = Many(api.Draws{L: sample(), At: at}, 0)
		checkDraws(t, d, sample(), at)
	}
	for _, l := range [][]int{nil, {}} {
		_, d := Next(api.Draws{L: l})
		checkDraws(t, d, nil, 1)
		_, d = Many(api.Draws{L: l}, -1)
		checkDraws(t, d, nil, 0)
	}
}
