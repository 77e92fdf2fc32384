package pick

import (
	"math"
	"slices"
	"testing"

	"warp/api"
	"warp/lists"
)

// flags tells who is enabled: a text of 1 and 0, one a worker.
func flags(s string) []bool {
	var l []bool
	for _, c := range []byte(s) {
		l = append(l, c == '1')
	}
	return l
}

// only tells n workers of which those at the places are enabled.
func only(n int, places ...int) []bool {
	l := make([]bool, n)
	for _, i := range places {
		l[i] = true
	}
	return l
}

// scribble writes x into l, and into its spare room.
func scribble[T any](l []T, x T) {
	l = l[:cap(l)]
	for i := range l {
		l[i] = x
	}
}

// checkPicks checks that p is of l, at, last.
func checkPicks(t *testing.T, p api.Picks, l []int, at, last int) {
	t.Helper()
	if p.At != at || p.Last != last || !slices.Equal(p.L, l) {
		t.Errorf("picks: got %v at %d, last %d, want %v at %d, last %d", p.L, p.At, p.Last, l, at, last)
	}
}

// checkNext checks that Next of p tells want, and p with that as Last and At at.
func checkNext(t *testing.T, p api.Picks, enabled []bool, want, at int) {
	t.Helper()
	n, q := Next(p, enabled)
	if n != want {
		t.Errorf("Next(%v, %v) = %d, want %d", p, enabled, n, want)
	}
	checkPicks(t, q, p.L, at, want)
}

// plainNext is Next by the words of 2.2, without bits.
func plainNext(p api.Picks, enabled []bool) (int, api.Picks) {
	var who []int
	for i, is := range enabled {
		if is {
			who = append(who, i)
		}
	}
	if len(who) == 0 {
		return -1, p
	}
	if p.At >= 0 && p.At < len(p.L) {
		p.Last = who[(p.L[p.At]%len(who)+len(who))%len(who)]
		p.At++
		return p.Last, p
	}
	for _, i := range who {
		if i > p.Last {
			p.Last = i
			return i, p
		}
	}
	p.Last = who[0]
	return who[0], p
}

// sample holds ordinary numbers, ones below 0, and ones above all workers.
func sample() []int {
	return []int{0, 1, 2, 5, -1, -2, -7, 63, 64, 65, 1 << 40, math.MaxInt, math.MinInt, math.MinInt + 1}
}

// Promise 2.1.

func TestStart(t *testing.T) {
	for _, l := range [][]int{nil, {}, {0}, {5, -1, 1 << 40}, sample()} {
		checkPicks(t, Start(l), l, 0, -1)
	}
}

func TestStartWithSpareRoom(t *testing.T) {
	l := lists.Roomy([]int{4, 5}, 7)
	checkPicks(t, Start(l), []int{4, 5}, 0, -1)
}

func TestStartIsNewMemory(t *testing.T) {
	l := lists.Roomy([]int{1, 2, 3}, 7)
	was := slices.Clone(l[:cap(l)])
	p, q := Start(l), Start(l)
	scribble(append(p.L, -77), -77)
	scribble(p.L, -77)
	if !slices.Equal(l[:cap(l)], was) {
		t.Errorf("what was handed in is now %v", l[:cap(l)])
	}
	scribble(l, -88)
	checkPicks(t, q, []int{1, 2, 3}, 0, -1)
	checkPicks(t, Start([]int{1, 2, 3}), []int{1, 2, 3}, 0, -1)
}

// Promise 2.2, none enabled.

func TestNextOfNone(t *testing.T) {
	for _, enabled := range [][]bool{nil, {}, flags("0"), flags("000"), only(64), only(65), only(200)} {
		for _, l := range [][]int{nil, {}, {3}, sample()} {
			for _, at := range []int{0, 1, -1, len(l), len(l) + 1, math.MaxInt, math.MinInt} {
				for _, last := range []int{-1, 0, 2, 64, -9, math.MaxInt, math.MinInt} {
					n, p := Next(api.Picks{L: l, At: at, Last: last}, enabled)
					if n != -1 {
						t.Errorf("of none at %d, last %d: got %d, want -1", at, last, n)
					}
					checkPicks(t, p, l, at, last)
				}
			}
		}
	}
}

// What stands in the spare room of enabled is no worker.
func TestNextOfNoneWithSpareRoom(t *testing.T) {
	n, p := Next(api.Picks{L: []int{1}, Last: 4}, lists.Roomy(flags("000"), true))
	if n != -1 {
		t.Errorf("got %d, want -1", n)
	}
	checkPicks(t, p, []int{1}, 0, 4)
}

// Promise 2.2, by L.

func TestNextByNumber(t *testing.T) {
	for _, c := range []struct {
		n, want int
	}{
		{0, 1}, {1, 2}, {2, 4}, {3, 1}, {4, 2}, {5, 4}, {7, 2}, {1 << 40, 2}, {math.MaxInt, 2},
		{-1, 4}, {-2, 2}, {-3, 1}, {-4, 4}, {-5, 2}, {-6, 1}, {math.MinInt, 2}, {math.MinInt + 1, 4},
	} {
		for _, last := range []int{-1, 0, 1, 4, 5, 99, -5, math.MaxInt, math.MinInt} {
			checkNext(t, api.Picks{L: []int{c.n}, Last: last}, flags("011010"), c.want, 1)
		}
	}
}

func TestNextByNumberOfOneAlone(t *testing.T) {
	for _, n := range sample() {
		for _, i := range []int{0, 1, 62, 63, 64, 65, 127, 128, 199} {
			checkNext(t, api.Picks{L: []int{n}, Last: 3}, only(200, i), i, 1)
			checkNext(t, api.Picks{L: []int{n}, Last: 3}, only(i+1, i), i, 1)
		}
	}
}

// Each place of L has its own number, and the last one is a place.
func TestNextAtEachPlace(t *testing.T) {
	l := []int{2, 0, -1, 1, 5}
	for at, want := range []int{3, 0, 3, 2, 3} {
		checkNext(t, api.Picks{L: l, At: at, Last: 2}, flags("1011"), want, at+1)
	}
}

func TestNextByNumberOfManyWorkers(t *testing.T) {
	all := slices.Repeat([]bool{true}, 200)
	for _, n := range []int{0, 1, 62, 63, 64, 65, 127, 128, 129, 191, 192, 199} {
		checkNext(t, api.Picks{L: []int{n}, Last: -1}, all, n, 1)
		checkNext(t, api.Picks{L: []int{n + 200}, Last: -1}, all, n, 1)
		checkNext(t, api.Picks{L: []int{n - 200}, Last: -1}, all, n, 1)
	}
	some := only(200, 5, 63, 64, 130, 199)
	for n, want := range []int{5, 63, 64, 130, 199, 5, 63} {
		checkNext(t, api.Picks{L: []int{n}, Last: -1}, some, want, 1)
	}
	for n, want := range []int{199, 130, 64, 63, 5, 199} {
		checkNext(t, api.Picks{L: []int{-n - 1}, Last: -1}, some, want, 1)
	}
}

// Promise 2.2, not by L.

func TestNextBehindLast(t *testing.T) {
	for _, c := range []struct {
		enabled    string
		last, want int
	}{
		{"111", -1, 0}, {"111", 0, 1}, {"111", 1, 2}, {"111", 2, 0},
		{"0101", -1, 1}, {"0101", 0, 1}, {"0101", 1, 3}, {"0101", 2, 3},
		{"0101", 3, 1}, {"0101", 4, 1}, {"0101", 5, 1}, {"01010", 3, 1}, {"01010", 4, 1},
		{"0100", 0, 1}, {"0100", 1, 1}, {"0100", 2, 1}, {"1", 0, 0}, {"1", -1, 0}, {"1", 1, 0},
		{"0011", -2, 2}, {"0011", -64, 2}, {"0011", -65, 2}, {"0011", math.MinInt, 2}, {"1011", math.MinInt, 0},
		{"0011", 63, 2}, {"0011", 64, 2}, {"0011", 1 << 31, 2}, {"0011", math.MaxInt, 2}, {"1011", math.MaxInt - 1, 0},
	} {
		checkNext(t, api.Picks{Last: c.last}, flags(c.enabled), c.want, 0)
	}
}

// An At that is no place of L stays, and L's numbers are not looked at.
func TestNextAtNoPlace(t *testing.T) {
	for _, l := range [][]int{nil, {}, {2}, {2, 2, 2}, {2, 2, 2, 2, 2}} {
		for _, at := range []int{-1, -2, -3, math.MinInt, len(l), len(l) + 1, 1 << 32, math.MaxInt} {
			checkNext(t, api.Picks{L: l, At: at, Last: -1}, flags("1111"), 0, at)
			checkNext(t, api.Picks{L: l, At: at, Last: 0}, flags("1111"), 1, at)
			checkNext(t, api.Picks{L: l, At: at, Last: 3}, flags("1111"), 0, at)
		}
	}
}

// What stands in the list's spare room is none of its numbers.
func TestNextBehindTheListWithSpareRoom(t *testing.T) {
	checkNext(t, api.Picks{L: lists.Roomy([]int{0, 0}, 7), At: 2, Last: 0}, flags("1111"), 1, 2)
}

func TestNextBehindLastOfManyWorkers(t *testing.T) {
	some := only(200, 5, 63, 64, 130, 199)
	for _, c := range [][2]int{
		{-1, 5}, {4, 5}, {5, 63}, {62, 63}, {63, 64}, {64, 130}, {127, 130}, {128, 130}, {129, 130}, {130, 199},
		{191, 199}, {192, 199}, {198, 199}, {199, 5}, {200, 5}, {255, 5}, {256, 5}, {math.MaxInt, 5}, {math.MinInt, 5},
	} {
		checkNext(t, api.Picks{Last: c[0]}, some, c[1], 0)
	}
}

func TestNextOfWholeWords(t *testing.T) {
	for _, n := range []int{63, 64, 65, 128, 129} {
		all := slices.Repeat([]bool{true}, n)
		for last := range n {
			checkNext(t, api.Picks{Last: last}, all, (last+1)%n, 0)
		}
		checkNext(t, api.Picks{Last: n}, all, 0, 0)
		for last := range n {
			checkNext(t, api.Picks{Last: last}, only(n, n-1), n-1, 0)
			checkNext(t, api.Picks{Last: last}, only(n, 0), 0, 0)
		}
	}
}

// Promise 2.2, of all small sets of workers.

func TestNextIsThePlainOne(t *testing.T) {
	for n := range 7 {
		for mask := range 1 << n {
			enabled := make([]bool, n)
			for i := range enabled {
				enabled[i] = mask>>i&1 == 1
			}
			for last := -3; last < n+3; last++ {
				for at := -2; at < len(sample())+2; at++ {
					p := api.Picks{L: sample(), At: at, Last: last}
					want, q := plainNext(p, enabled)
					got, r := Next(p, enabled)
					if got != want {
						t.Errorf("Next(%v, %v) = %d, want %d", p, enabled, got, want)
					}
					checkPicks(t, r, q.L, q.At, q.Last)
				}
			}
		}
	}
}

func TestNextsThroughTheListAndBehindIt(t *testing.T) {
	for _, n := range []int{1, 3, 64, 100, 300} {
		enabled := make([]bool, n)
		for i := range enabled {
			enabled[i] = i*i%5 < 2
		}
		p, q := Start(sample()), Start(sample())
		for range 2*n + len(sample()) {
			var got, want int
			got, p = Next(p, enabled)
			want, q = plainNext(q, enabled)
			if got != want {
				t.Fatalf("of %d workers: got %d, want %d", n, got, want)
			}
			checkPicks(t, p, q.L, q.At, q.Last)
		}
	}
}

// Promise 2.3.

func TestExample(t *testing.T) {
	p := Start(nil)
	for _, want := range []int{0, 1, 2, 0, 1, 2, 0} {
		checkNext(t, p, flags("111"), want, 0)
		_, p = Next(p, flags("111"))
	}
}

// Each round that begins anywhere has each enabled one once.
func TestAllEnabledComeInTurn(t *testing.T) {
	for _, enabled := range [][]bool{
		flags("1"), flags("0010"), flags("1101"), flags("0110100"), only(130, 1, 63, 64, 129), only(64, 0, 63),
		slices.Repeat([]bool{true}, 64), slices.Repeat([]bool{true}, 150),
	} {
		count := setOf(enabled).count()
		for last := -1; last <= len(enabled); last++ {
			p, came := api.Picks{Last: last}, make([]int, len(enabled))
			for range 2 * count {
				var n int
				n, p = Next(p, enabled)
				came[n]++
			}
			for i, is := range enabled {
				if is && came[i] != 2 || !is && came[i] != 0 {
					t.Errorf("behind %d: %d came %d times in two rounds", last, i, came[i])
				}
			}
		}
	}
}

// Those that stay enabled come one behind the other, whichever others are enabled for a time.
func TestThoseThatStayEnabledComeInTurn(t *testing.T) {
	for _, size := range []int{5, 64, 65, 140} {
		stay := []int{1, 3, size - 1}
		p, turn := Start(nil), 0
		for step := range 20 * size {
			enabled := only(size, stay...)
			for i := range enabled {
				enabled[i] = enabled[i] || (step*7+i*13)%11 < 4
			}
			var n int
			n, p = Next(p, enabled)
			if !slices.Contains(stay, n) {
				continue
			}
			if n != stay[turn%3] {
				t.Fatalf("of %d at step %d: %d came, want %d", size, step, n, stay[turn%3])
			}
			turn++
		}
		if turn < 60 {
			t.Errorf("of %d: those that stay came %d times in 20 rounds", size, turn)
		}
	}
}

// Picks that are used up are as none.
func TestBehindTheListAllComeInTurn(t *testing.T) {
	p := Start([]int{3, 1})
	for i, want := range []int{3, 1, 2, 3, 0, 1, 2, 3} {
		checkNext(t, p, flags("1111"), want, min(i+1, 2))
		_, p = Next(p, flags("1111"))
	}
}

// R3 and R4: what is handed in, what is told. Whether picks that are told again share their L with what was
// handed in is not asked here: R4 says of them that they are as they are.

func TestNothingHandedInIsChanged(t *testing.T) {
	l, enabled := lists.Roomy(sample(), 7), lists.Roomy(flags("0110101"), true)
	wasL, wasEnabled := slices.Clone(l[:cap(l)]), slices.Clone(enabled[:cap(enabled)])
	for at := -1; at < cap(l)+2; at++ {
		p := api.Picks{L: l, At: at, Last: 2}
		Start(l)
		Next(p, enabled)
		Next(p, enabled[:1])
		if !slices.Equal(l[:cap(l)], wasL) {
			t.Fatalf("at %d: the list that was handed in is now %v", at, l[:cap(l)])
		}
		if !slices.Equal(enabled[:cap(enabled)], wasEnabled) {
			t.Fatalf("at %d: who is enabled is now %v", at, enabled[:cap(enabled)])
		}
		checkPicks(t, p, sample(), at, 2)
	}
}

func TestNothingIsKept(t *testing.T) {
	l, enabled := []int{2, 0, 1}, flags("111")
	n, told := Next(Start(l), enabled)
	scribble(l, -77)
	scribble(told.L, -77)
	scribble(enabled, false)
	checkNext(t, Start([]int{2, 0, 1}), flags("111"), 2, 1)
	checkNext(t, Start(l), flags("0111"), 2, 1)
	if n != 2 {
		t.Errorf("got %d, want 2", n)
	}
}

// Two that go on from the same picks do not touch one another.
func TestTwoOfTheSamePicks(t *testing.T) {
	p := Start([]int{2, 0, 1})
	_, q := Next(p, flags("111"))
	for range 3 {
		checkNext(t, p, flags("111"), 2, 1)
		checkNext(t, q, flags("111"), 0, 2)
	}
	checkPicks(t, p, []int{2, 0, 1}, 0, -1)
}

func TestPicksToldAgainAreAsTheyAre(t *testing.T) {
	for _, at := range []int{-1, 0, 3, len(sample()) - 1, len(sample()), math.MaxInt} {
		n, p := Next(api.Picks{L: sample(), At: at, Last: 7}, flags("0000"))
		if n != -1 {
			t.Errorf("got %d, want -1", n)
		}
		checkPicks(t, p, sample(), at, 7)
	}
	for _, l := range [][]int{nil, {}} {
		_, p := Next(api.Picks{L: l, Last: -1}, nil)
		checkPicks(t, p, nil, 0, -1)
		_, p = Next(api.Picks{L: l, Last: -1}, flags("01"))
		checkPicks(t, p, nil, 0, 1)
	}
}
