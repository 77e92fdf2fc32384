package part

import (
	"math"
	"slices"
	"testing"

	"warp/lists"
)

// scribble writes into l, and into its spare room.
func scribble(l []int) {
	l = l[:cap(l)]
	for i := range l {
		l[i] = -77
	}
}

// check checks that p is want.
func check(t *testing.T, what string, p, want []int) {
	t.Helper()
	if !slices.Equal(p, want) {
		t.Errorf("%s = %v, want %v", what, p, want)
	}
}

// plain is a partition without least elements: which two are of one class. It is what the tests hold part against.
type plain [][]bool

// plainOf tells the plain partition of the pairs that are there, by going from each element to all that it leads to.
func plainOf(n int, pairs [][2]int) plain {
	r := make(plain, n)
	for x := range r {
		r[x] = make([]bool, n)
		r[x][x] = true
	}
	for _, p := range pairs {
		if x, y := p[0], p[1]; x >= 0 && x < n && y >= 0 && y < n {
			r[x][y], r[y][x] = true, true
		}
	}
	for k := range r {
		for x := range r {
			for y := range r {
				r[x][y] = r[x][y] || r[x][k] && r[k][y]
			}
		}
	}
	return r
}

// list tells the least of each one's class.
func (r plain) list() []int {
	l := make([]int, len(r))
	for x := range r {
		l[x] = slices.Index(r[x], true)
	}
	return l
}

// within tells whether what is of one class in r is so in s, which is as long.
func (r plain) within(s plain) bool {
	for x := range r {
		for y := range r {
			if r[x][y] && !s[x][y] {
				return false
			}
		}
	}
	return true
}

// pairsOf tells the pairs of which p is made: each with the least of its class.
func pairsOf(p []int) [][2]int {
	var l [][2]int
	for x, least := range p {
		l = append(l, [2]int{x, least})
	}
	return l
}

// partitions tells all partitions of n, told by their pairs: each element with one that is not above it.
func partitions(n int) [][]int {
	var l [][]int
	lists.Each(n, lists.Span(0, n-1), func(p []int) {
		if slices.Equal(plainOf(n, pairsOf(p)).list(), p) {
			l = append(l, p)
		}
	})
	return l
}

// Promise 3.1, May.

func TestMay(t *testing.T) {
	for _, p := range [][]int{
		nil, {}, {0}, {0, 0}, {0, 1}, {0, 0, 0}, {0, 1, 0}, {0, 1, 1}, {0, 0, 2, 0, 2}, {0, 1, 2, 0, 4, 2, 2}, lists.Span(0, 100),
	} {
		if !May(p) {
			t.Errorf("May(%v) is false", p)
		}
	}
}

func TestMayNot(t *testing.T) {
	for _, p := range [][]int{
		{-1}, {math.MinInt}, {1}, {2}, {math.MaxInt}, // below 0, above its own place
		{0, -1}, {0, 2}, {0, 1, 3}, {0, 1, -3}, {1, 0}, {1, 1}, {0, 2, 2}, {0, 0, 3, 3},
		{0, 0, 1}, {0, 1, 1, 2}, {0, 0, 0, 2}, {0, 1, 0, 2}, // not the least of its class
		{0, 0, 2, 0, -2}, {0, 0, 2, 0, 5}, {0, 0, 2, 0, 1}, {0, 0, 2, 0, 3}, // the last one
		{0, -1, 1}, {0, 5, 1}, {0, 1, 2, math.MaxInt}, {0, 1, 2, math.MinInt},
	} {
		if May(p) {
			t.Errorf("May(%v) is true", p)
		}
	}
}

// Of all small lists those may be that tell the least of each class.
func TestMayOfAllSmallLists(t *testing.T) {
	for n, bell := range []int{1, 1, 2, 5, 15, 52} {
		count := 0
		all := make(map[[5]int]int)
		for _, p := range partitions(n) {
			var key [5]int
			copy(key[:], p)
			all[key] = 1
		}
		lists.Each(n, lists.Span(-1, n), func(p []int) {
			var key [5]int
			copy(key[:], p)
			if got, want := May(p), all[key] == 1; got != want {
				t.Errorf("May(%v) = %v", p, got)
			} else if got {
				count++
			}
		})
		if count != bell {
			t.Errorf("%d lists of %d may be, want %d", count, n, bell)
		}
	}
}

func TestMayOfTheMost(t *testing.T) {
	for _, n := range []int{1<<16 - 1, 1 << 16, 1<<16 + 1, 1 << 17} {
		for _, p := range [][]int{lists.Of(n, 0), lists.Span(0, n-1)} {
			if got, want := May(p), n <= 1<<16; got != want {
				t.Errorf("May of %d = %v", n, got)
			}
			p[n-1] = n
			if May(p) {
				t.Errorf("May of %d, the last one above its place, is true", n)
			}
		}
	}
}

// What stands in spare room is no element.
func TestMayWithSpareRoom(t *testing.T) {
	p := lists.Roomy([]int{0, 0, 2}, 7)
	if !May(p) || Classes(p) != 2 || !Le(p, []int{0, 0, 2}) || !Le([]int{0, 0, 2}, p) {
		t.Error("spare room is looked at")
	}
	if Same(p, 3, 3) || Same(p, 3, 4) {
		t.Error("spare room is there")
	}
	check(t, "Unite of spare room", Unite(p, 0, 3), []int{0, 0, 2})
}

// Promise 3.1, New.

func TestNew(t *testing.T) {
	for n := range 70 {
		check(t, "New", New(n), lists.Span(0, n-1))
	}
}

func TestNewIsCut(t *testing.T) {
	for _, n := range []int{-1, -2, -1 << 16, -1 << 32, math.MinInt} {
		check(t, "New", New(n), nil)
	}
	most := lists.Span(0, 1<<16-1)
	check(t, "New of 2^16 - 1", New(1<<16-1), most[:1<<16-1])
	for _, n := range []int{1 << 16, 1<<16 + 1, 1 << 17, 1 << 32, 1<<32 + 3, math.MaxInt} {
		if p := New(n); !slices.Equal(p, most) {
			t.Errorf("New(%d): %d elements", n, len(p))
		}
	}
}

// Promise 3.1, Same.

func TestSame(t *testing.T) {
	p := []int{0, 1, 2, 0, 4, 2, 2}
	for _, c := range []struct {
		x, y int
		want bool
	}{
		{0, 0, true}, {6, 6, true}, {0, 3, true}, {2, 5, true}, {2, 6, true}, {5, 6, true},
		{0, 1, false}, {3, 5, false}, {0, 6, false}, {1, 4, false},
	} {
		if Same(p, c.x, c.y) != c.want || Same(p, c.y, c.x) != c.want {
			t.Errorf("Same of %d, %d is not %v", c.x, c.y, c.want)
		}
	}
}

// nowhere are numbers that are no element of a partition of n.
func nowhere(n int) []int {
	return []int{-1, -2, -n, -n - 1, math.MinInt, n, n + 1, 2 * n, 1 << 16, 1 << 32, 1<<32 + 1, math.MaxInt}
}

func TestSameOfNoElement(t *testing.T) {
	for _, p := range [][]int{{0}, {0, 0}, {0, 1}, {0, 0, 0, 0}, {0, 1, 2, 0, 4, 2, 2}} {
		for _, x := range nowhere(len(p)) {
			for y := range p {
				if Same(p, x, y) || Same(p, y, x) {
					t.Errorf("Same(%v) of %d, %d is true", p, x, y)
				}
			}
			for _, y := range nowhere(len(p)) {
				if Same(p, x, y) {
					t.Errorf("Same(%v) of %d, %d is true", p, x, y)
				}
			}
		}
	}
	for _, p := range [][]int{nil, {}} {
		for x := -2; x < 3; x++ {
			if Same(p, x, x) || Same(p, 0, x) || Same(p, x, 0) {
				t.Errorf("Same of %d in no elements is true", x)
			}
		}
	}
}

// Promise 3.1, Unite.

func TestUnite(t *testing.T) {
	p := []int{0, 1, 2, 0, 4, 2, 2}
	for _, c := range []struct {
		x, y int
		want []int
	}{
		{0, 1, []int{0, 0, 2, 0, 4, 2, 2}},
		{3, 1, []int{0, 0, 2, 0, 4, 2, 2}},
		{1, 2, []int{0, 1, 1, 0, 4, 1, 1}},
		{1, 6, []int{0, 1, 1, 0, 4, 1, 1}},
		{3, 6, []int{0, 1, 0, 0, 4, 0, 0}},
		{1, 4, []int{0, 1, 2, 0, 1, 2, 2}},
		{4, 5, []int{0, 1, 2, 0, 2, 2, 2}},
		{4, 3, []int{0, 1, 2, 0, 0, 2, 2}},
	} {
		check(t, "Unite", Unite(p, c.x, c.y), c.want)
		check(t, "Unite turned round", Unite(p, c.y, c.x), c.want)
	}
}

// One with itself, and two that are of one class already.
func TestUniteOfOneClass(t *testing.T) {
	for n := range 6 {
		for _, p := range partitions(n) {
			for x := range p {
				for y := range p {
					if p[x] == p[y] {
						check(t, "Unite", Unite(p, x, y), p)
					}
				}
			}
		}
	}
}

func TestUniteOfNoElement(t *testing.T) {
	for _, p := range [][]int{nil, {}, {0}, {0, 0}, {0, 1}, {0, 1, 2, 0, 4, 2, 2}} {
		for _, x := range nowhere(len(p)) {
			for _, y := range append(lists.Span(0, len(p)-1), nowhere(len(p))...) {
				check(t, "Unite", Unite(p, x, y), p)
				check(t, "Unite turned round", Unite(p, y, x), p)
			}
		}
	}
}

// Promise 3.1, Of.

func TestOf(t *testing.T) {
	for _, c := range []struct {
		n     int
		pairs [][2]int
		want  []int
	}{
		{3, [][2]int{{0, 2}}, []int{0, 1, 0}},
		{3, [][2]int{{2, 0}}, []int{0, 1, 0}},
		{0, nil, nil},
		{0, [][2]int{{0, 0}}, nil},
		{1, [][2]int{{0, 0}, {0, 1}}, []int{0}},
		{4, nil, []int{0, 1, 2, 3}},
		{4, [][2]int{}, []int{0, 1, 2, 3}},
		{4, [][2]int{{1, 1}, {3, 3}}, []int{0, 1, 2, 3}},
		{4, [][2]int{{2, 3}, {1, 2}, {0, 1}}, []int{0, 0, 0, 0}},
		{4, [][2]int{{0, 1}, {2, 3}}, []int{0, 0, 2, 2}},
		{5, [][2]int{{4, 3}, {4, 3}, {3, 4}}, []int{0, 1, 2, 3, 3}},
		{5, [][2]int{{4, 1}, {3, 2}, {4, 3}}, []int{0, 1, 1, 1, 1}},
		{7, [][2]int{{5, 2}, {6, 5}, {0, 3}, {9, 0}, {0, -1}, {4, 4}}, []int{0, 1, 2, 0, 4, 2, 2}},
		{8, [][2]int{{6, 7}, {4, 5}, {5, 7}, {0, 1}, {2, 3}, {3, 1}}, []int{0, 0, 0, 0, 4, 4, 4, 4}},
	} {
		check(t, "Of", Of(c.n, c.pairs...), c.want)
	}
}

func TestOfNoPairsIsNew(t *testing.T) {
	for _, n := range []int{-1, math.MinInt, 0, 1, 2, 70, 1<<16 - 1, 1 << 16, 1<<16 + 1, 1 << 32, math.MaxInt} {
		if !slices.Equal(Of(n), New(n)) {
			t.Errorf("Of(%d) is not New of it", n)
		}
	}
}

func TestOfPairsThatAreNotThere(t *testing.T) {
	for n := range 5 {
		for _, x := range nowhere(n) {
			for _, y := range append(lists.Span(0, n-1), nowhere(n)...) {
				check(t, "Of", Of(n, [2]int{x, y}, [2]int{y, x}), lists.Span(0, n-1))
				if n > 1 {
					// The pairs behind it are united yet.
					check(t, "Of", Of(n, [2]int{x, y}, [2]int{0, 1}), Of(n, [2]int{0, 1}))
				}
			}
		}
	}
	// The elements are those of the number that was cut.
	last := 1<<16 - 1
	if p := Of(math.MaxInt, [2]int{0, last + 1}, [2]int{1, last}); Classes(p) != last || !Same(p, 1, last) {
		t.Error("Of of more than the most")
	}
	check(t, "Of", Of(-3, [2]int{0, 0}, [2]int{-1, -2}), nil)
}

// Of is New, and Unite of one pair behind the other.
func TestOfIsUnites(t *testing.T) {
	for _, n := range []int{1, 2, 3, 5, 8, 13, 60} {
		for _, pairs := range manyPairs(n) {
			p := New(n)
			for _, pair := range pairs {
				p = Unite(p, pair[0], pair[1])
			}
			check(t, "Unites", p, plainOf(n, pairs).list())
			check(t, "Of", Of(n, pairs...), p)
		}
	}
}

// manyPairs tells lists of pairs of n elements, some of which are not there.
func manyPairs(n int) [][][2]int {
	var l [][][2]int
	for seed := range 40 {
		x := uint32(seed*7919 + n)
		var pairs [][2]int
		for range seed * n / 30 {
			x = x*1664525 + 1013904223
			y := x*1664525 + 1013904223
			pairs = append(pairs, [2]int{int(x>>8)%(n+2) - 1, int(y>>8)%(n+2) - 1})
			x = y
		}
		l = append(l, pairs)
	}
	return l
}

// Promise 3.1, of all small partitions.

func TestAllSmallPartitions(t *testing.T) {
	for n := range 6 {
		for _, p := range partitions(n) {
			r := plainOf(n, pairsOf(p))
			check(t, "Of", Of(n, pairsOf(p)...), p)
			for x := range n {
				for y := range n {
					if Same(p, x, y) != r[x][y] {
						t.Errorf("Same(%v, %d, %d) is not %v", p, x, y, r[x][y])
					}
					q := Unite(p, x, y)
					check(t, "Unite", q, plainOf(n, append(pairsOf(p), [2]int{x, y})).list())
					if !May(q) || !Same(q, x, y) || !Le(p, q) {
						t.Errorf("Unite(%v, %d, %d) = %v", p, x, y, q)
					}
				}
			}
		}
	}
}

// Promise 3.1, Classes.

func TestClasses(t *testing.T) {
	for _, c := range []struct {
		p    []int
		want int
	}{
		{nil, 0}, {[]int{}, 0}, {[]int{0}, 1}, {[]int{0, 0}, 1}, {[]int{0, 1}, 2}, {[]int{0, 1, 0}, 2}, {[]int{0, 0, 2, 0, 2}, 2},
		{[]int{0, 1, 2, 0, 4, 2, 2}, 4}, {lists.Of(100, 0), 1}, {lists.Span(0, 99), 100},
		{lists.Of(1<<16, 0), 1}, {lists.Span(0, 1<<16-1), 1 << 16},
	} {
		if got := Classes(c.p); got != c.want {
			t.Errorf("Classes of %d elements = %d, want %d", len(c.p), got, c.want)
		}
	}
}

// One a least element, and one fewer when two become one.
func TestClassesOfAllSmallPartitions(t *testing.T) {
	for n := range 6 {
		for _, p := range partitions(n) {
			count := len(slices.Compact(slices.Sorted(slices.Values(p))))
			if got := Classes(p); got != count {
				t.Errorf("Classes(%v) = %d, want %d", p, got, count)
			}
			for x := range p {
				want := count
				if p[x] != p[0] {
					want--
				}
				if got := Classes(Unite(p, 0, x)); got != want {
					t.Errorf("Classes of Unite(%v, 0, %d) = %d, want %d", p, x, got, want)
				}
			}
		}
	}
}

// Promise 3.1, Le.

func TestLe(t *testing.T) {
	for _, c := range []struct {
		a, b []int
		want bool
	}{
		{nil, nil, true}, {nil, []int{}, true}, {[]int{}, nil, true},
		{nil, []int{0}, false}, {[]int{0}, nil, false},
		{[]int{0, 1, 2}, []int{0, 1, 2, 3}, false}, {[]int{0, 1, 2, 3}, []int{0, 1, 2}, false},
		{[]int{0, 0, 2}, []int{0, 0, 2, 3}, false}, {[]int{0, 0, 2, 3}, []int{0, 0, 2}, false},
		{[]int{0, 1, 2}, []int{0, 0, 0}, true}, {[]int{0, 0, 0}, []int{0, 1, 2}, false},
		{[]int{0, 0, 2}, []int{0, 0, 0}, true}, {[]int{0, 0, 0}, []int{0, 0, 2}, false},
		{[]int{0, 1, 1}, []int{0, 0, 0}, true}, {[]int{0, 1, 1}, []int{0, 0, 2}, false},
		{[]int{0, 0, 2}, []int{0, 1, 1}, false}, {[]int{0, 1, 0}, []int{0, 1, 1}, false},
		{[]int{0, 0, 2, 2}, []int{0, 0, 2, 3}, false}, {[]int{0, 0, 2, 3}, []int{0, 0, 2, 2}, true},
		{[]int{0, 1, 1, 3}, []int{0, 1, 1, 0}, true}, {[]int{0, 1, 1, 3}, []int{0, 1, 1, 1}, true},
		{[]int{0, 1, 1, 1}, []int{0, 0, 0, 0}, true}, {[]int{0, 0, 2, 2}, []int{0, 1, 0, 1}, false},
	} {
		if got := Le(c.a, c.b); got != c.want {
			t.Errorf("Le(%v, %v) = %v", c.a, c.b, got)
		}
	}
}

func TestLeOfAllSmallPartitions(t *testing.T) {
	for n := range 6 {
		all := partitions(n)
		plains := make([]plain, len(all))
		for i, p := range all {
			plains[i] = plainOf(n, pairsOf(p))
		}
		for i, a := range all {
			if !Le(a, a) || !Le(New(n), a) || !Le(a, make([]int, n)) {
				t.Errorf("%v with itself, with the finest, with the coarsest", a)
			}
			for j, b := range all {
				if got, want := Le(a, b), plains[i].within(plains[j]); got != want {
					t.Errorf("Le(%v, %v) = %v", a, b, got)
				}
			}
		}
	}
}

func TestLeOfTheMost(t *testing.T) {
	finest, coarsest := New(1<<16), lists.Of(1<<16, 0)
	if !Le(finest, coarsest) || Le(coarsest, finest) || !Le(finest, finest) || !Le(coarsest, coarsest) {
		t.Error("Le of the most")
	}
	if two := Unite(finest, 0, 1<<16-1); Le(two, finest) || !Le(finest, two) || !Le(two, coarsest) {
		t.Error("Le of the most, two of one class")
	}
}

// Promise 3.2.

// orders calls f with the pairs in each order.
func orders(pairs [][2]int, k int, f func([][2]int)) {
	if k == len(pairs) {
		f(pairs)
		return
	}
	for i := k; i < len(pairs); i++ {
		pairs[k], pairs[i] = pairs[i], pairs[k]
		orders(pairs, k+1, f)
		pairs[k], pairs[i] = pairs[i], pairs[k]
	}
}

func TestPairsInEachOrder(t *testing.T) {
	for _, pairs := range [][][2]int{
		{{0, 1}, {1, 2}, {2, 3}, {3, 4}, {4, 5}},
		{{5, 4}, {3, 2}, {1, 0}, {4, 3}, {2, 1}},
		{{0, 3}, {1, 3}, {2, 3}, {0, 1}, {5, 5}},
		{{5, 0}, {5, 1}, {4, 2}, {4, 3}, {4, 5}},
		{{5, 2}, {6, 5}, {0, 3}, {9, 0}, {0, -1}, {2, 6}},
		{{0, 1}, {0, 1}, {1, 0}, {2, 4}, {4, 2}, {1, 4}},
		{{1, 6}, {6, 2}, {2, 5}, {5, 3}, {3, 4}, {4, 7}},
	} {
		want := plainOf(7, pairs).list()
		orders(slices.Clone(pairs), 0, func(l [][2]int) {
			p := New(7)
			for _, pair := range l {
				p = Unite(p, pair[0], pair[1])
			}
			if q := Of(7, l...); !slices.Equal(q, want) || !slices.Equal(p, want) {
				t.Fatalf("of %v: Of tells %v, Unites tell %v, want %v", l, q, p, want)
			}
		})
	}
}

// Turned round, twice, and from the last to the first.
func TestPairsAgainAndTurnedRound(t *testing.T) {
	for _, n := range []int{3, 8, 60} {
		for _, pairs := range manyPairs(n) {
			want := plainOf(n, pairs).list()
			var turned, twice [][2]int
			for i, pair := range pairs {
				turned = append(turned, [2]int{pair[1], pair[0]})
				twice = append(twice, pair, turned[i], pair)
			}
			back := slices.Clone(pairs)
			slices.Reverse(back)
			for _, l := range [][][2]int{turned, twice, back, slices.Concat(pairs, pairs), slices.Concat(back, turned, pairs)} {
				check(t, "Of", Of(n, l...), want)
			}
		}
	}
}

// Long chains, in orders that lead one element behind the other, or the last ones first.
func TestPairsOfTheMost(t *testing.T) {
	const n = 1 << 16
	rise, fall, star, last := [][2]int{}, [][2]int{}, [][2]int{}, [][2]int{}
	for x := 1; x < n; x++ {
		rise = append(rise, [2]int{x - 1, x})
		fall = append(fall, [2]int{n - x, n - x - 1})
		star = append(star, [2]int{0, x})
		last = append(last, [2]int{n - 1, n - 1 - x})
	}
	var halves [][2]int
	for d := n / 2; d > 0; d /= 2 {
		for x := 0; x < n; x += 2 * d {
			halves = append(halves, [2]int{x + d, x})
		}
	}
	for i, l := range [][][2]int{rise, fall, star, last, halves, slices.Concat(fall, rise, halves, star, last)} {
		if !slices.Equal(Of(n, l...), lists.Of(n, 0)) {
			t.Errorf("list %d: there is more than one class", i)
		}
		// The first five have not one pair too many.
		if p := Of(n, l[:n-2]...); i < 5 && (!May(p) || Classes(p) != 2) {
			t.Errorf("list %d without its last pair: %d classes", i, Classes(p))
		}
	}
}

// R1: wrong inputs. Of lists that may be no partition nothing is said, but that each call ends, none panics, and
// the same is told again.

func TestListsThatMayNotBe(t *testing.T) {
	wild := []int{math.MinInt, -1, 0, 1, 2, 3, math.MaxInt}
	var all [][]int
	for n := range 4 {
		lists.Each(n, wild, func(p []int) { all = append(all, p) })
	}
	for _, p := range all {
		was := slices.Clone(p)
		if Classes(p) != Classes(was) || May(p) != May(was) {
			t.Errorf("of %v other things are told again", p)
		}
		for _, x := range wild {
			for _, y := range wild {
				if Same(p, x, y) != Same(was, x, y) || !slices.Equal(Unite(p, x, y), Unite(was, x, y)) {
					t.Errorf("of %v, %d, %d other things are told again", p, x, y)
				}
			}
		}
		for _, q := range [][]int{{}, {0}, {0, 0}, {0, 1}, {0, 0, 0}, {0, 1, 0}, {3, -1, 5}, {math.MaxInt, math.MinInt, 0}} {
			if Le(p, q) != Le(was, q) || Le(q, p) != Le(q, was) {
				t.Errorf("of %v, %v other things are told again", p, q)
			}
		}
		if !slices.Equal(p, was) {
			t.Fatalf("%v became %v", was, p)
		}
	}
	long := lists.Of(1<<16+5, 0)
	if len(Unite(long, 0, 1<<16+4)) > len(long) || Le(long, long) != Le(long, slices.Clone(long)) {
		t.Error("of a list that is too long")
	}
}

// R3.

func TestNothingHandedInIsChanged(t *testing.T) {
	room := lists.Roomy([]int{0, 1, 2, 0, 4, 2, 2}, 7)
	was := slices.Clone(room[:cap(room)])
	other := lists.Roomy([]int{0, 1, 2, 3, 4, 5, 6}, 7)
	wasOther := slices.Clone(other[:cap(other)])
	May(room)
	Classes(room)
	Le(room, other)
	Le(other, room)
	for x := -1; x < 9; x++ {
		for y := -1; y < 9; y++ {
			Same(room, x, y)
			Unite(room, x, y)
		}
	}
	if !slices.Equal(room[:cap(room)], was) || !slices.Equal(other[:cap(other)], wasOther) {
		t.Errorf("what was handed in is now %v and %v", room[:cap(room)], other[:cap(other)])
	}
}

func TestPairsHandedInAreNotChanged(t *testing.T) {
	pairs := [][2]int{{5, 2}, {6, 5}, {0, 3}, {9, 0}, {0, -1}, {4, 4}, {5, 2}, {77, 78}, {79, 80}}
	was := slices.Clone(pairs)
	first := Of(7, pairs[:7]...)
	if !slices.Equal(pairs, was) {
		t.Errorf("the pairs are now %v", pairs)
	}
	for i := range pairs {
		pairs[i] = [2]int{0, 1}
	}
	check(t, "Of", first, []int{0, 1, 2, 0, 4, 2, 2})
	check(t, "Of", Of(7, was...), first)
}

// toldOf calls f twice, writes into what one tells, and behind it, and checks the other, and the third one.
func toldOf(t *testing.T, what string, want []int, f func() []int) {
	t.Helper()
	one, other := f(), f()
	scribble(append(one, -78))
	scribble(one)
	check(t, what, other, want)
	scribble(other)
	check(t, what, f(), want)
}

func TestWhatIsToldIsNewMemory(t *testing.T) {
	toldOf(t, "New", []int{0, 1, 2}, func() []int { return New(3) })
	toldOf(t, "Of", []int{0, 1, 0}, func() []int { return Of(3, [2]int{0, 2}) })
	toldOf(t, "Of no pairs", []int{0, 1, 2}, func() []int { return Of(3) })
	// Classes that become one, that are one, and elements that are not there.
	for _, c := range []struct {
		x, y int
		want []int
	}{
		{1, 4, []int{0, 1, 2, 0, 1, 2, 2}}, {2, 6, []int{0, 1, 2, 0, 4, 2, 2}}, {3, 3, []int{0, 1, 2, 0, 4, 2, 2}},
		{7, 7, []int{0, 1, 2, 0, 4, 2, 2}}, {0, 8, []int{0, 1, 2, 0, 4, 2, 2}}, {-1, 0, []int{0, 1, 2, 0, 4, 2, 2}},
	} {
		p := lists.Roomy([]int{0, 1, 2, 0, 4, 2, 2}, 7)
		was := slices.Clone(p[:cap(p)])
		toldOf(t, "Unite", c.want, func() []int { return Unite(p, c.x, c.y) })
		if !slices.Equal(p[:cap(p)], was) {
			t.Errorf("Unite of %d, %d shares what was handed in: %v", c.x, c.y, p[:cap(p)])
		}
		q := Unite(p, c.x, c.y)
		scribble(p)
		check(t, "Unite", q, c.want)
	}
}

// Spare room of nothing is new memory, too.
func TestNothingToldIsNewMemory(t *testing.T) {
	empty := lists.Roomy(nil, 7)
	was := slices.Clone(empty[:cap(empty)])
	scribble(append(Unite(empty, 0, 1), 5))
	scribble(Unite(empty, 0, 1))
	if !slices.Equal(empty[:cap(empty)], was) {
		t.Errorf("what was handed in is now %v", empty[:cap(empty)])
	}
	scribble(append(New(0), 5))
	scribble(append(Of(-1), 5))
	check(t, "New", New(0), nil)
	check(t, "Of", Of(-1), nil)
}
