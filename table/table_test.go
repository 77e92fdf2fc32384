package table

import (
	"fmt"
	"math"
	"slices"
	"strings"
	"testing"

	"warp/api"
	"warp/hash"
	"warp/lists"
	"warp/pick"
	"warp/plays"
)

const most = 1 << 12 // keys that are asked for

// key tells the key of that name alone.
func key(name string) api.Key { return api.Key{Name: name} }

// at tells a key of that name whose stripe of 64 is that one.
func at(name string, stripe int) api.Key {
	k := key(name)
	for hash.Stripe(k, 64) != stripe {
		k.A++
	}
	return k
}

// script tells those keys as a list.
func script(l ...api.Key) []api.Key { return l }

// all tells those scripts as a list.
func all(l ...[]api.Key) [][]api.Key { return l }

// told is what Play tells.
type told struct {
	got         [][]int
	keys        []api.Key
	steps, held int
}

// play tells what Play tells.
func play(scripts [][]api.Key, room, stripes int, picks []int) told {
	got, keys, steps, held := Play(scripts, room, stripes, picks)
	return told{got, keys, steps, held}
}

// is tells whether both are the same.
func (a told) is(b told) bool {
	return slices.EqualFunc(a.got, b.got, slices.Equal[[]int]) && slices.Equal(a.keys, b.keys) &&
		a.steps == b.steps && a.held == b.held
}

// copied tells a in new memory.
func (a told) copied() told {
	b := told{keys: slices.Clone(a.keys), steps: a.steps, held: a.held}
	for _, l := range a.got {
		b.got = append(b.got, slices.Clone(l))
	}
	return b
}

// said tells the values as a text, cut where it is long; names may be no UTF-8.
func said(l ...any) string {
	var parts []string
	for _, x := range l {
		s := strings.ReplaceAll(fmt.Sprintf("%#v", x), "api.Key", "")
		parts = append(parts, s[:min(len(s), 500)])
	}
	return strings.Join(parts, ", ")
}

// check checks what Play tells. No lock is held, ever.
func check(t *testing.T, scripts [][]api.Key, room, stripes int, picks []int, got [][]int, keys []api.Key, steps int) {
	t.Helper()
	want := told{got, keys, steps, 0}
	if r := play(scripts, room, stripes, picks); !r.is(want) {
		t.Errorf("%s\n tells %s\n want  %s", said(scripts, room, stripes, picks), said(r), said(want))
	}
}

// checkOrder checks the order in which keys come to stand in the table, by their names. There is room for all.
func checkOrder(t *testing.T, scripts [][]api.Key, stripes int, picks []int, want string) {
	t.Helper()
	r := play(scripts, most, stripes, picks)
	var names []string
	for _, k := range r.keys {
		names = append(names, k.Name)
	}
	if got := strings.Join(names, " "); got != want || r.steps != 3*count(scripts) {
		t.Errorf("%s: %s in %d steps, want %s", said(scripts, stripes, picks), got, r.steps, want)
	}
}

// count tells how many keys are asked for.
func count(scripts [][]api.Key) int { return len(slices.Concat(scripts...)) }

// holders is who has the lock of each stripe: a worker's number and 1, or 0.
type holders [64]int

// of tells what stands there of k's stripe.
func (h *holders) of(k api.Key, stripes int) *int { return &h[hash.Stripe(k, stripes)] }

// plainPlay plays as 8.1 tells it: a worker is the number of steps that it has done, the table is gone through from its
// start on, and all picks stand in one list. It is what the tests hold Play against.
func plainPlay(scripts [][]api.Key, room, stripes int, picks []int) told {
	r := told{got: make([][]int, len(scripts))}
	done := make([]int, len(scripts))
	var locks holders
	for p := pick.Start(picks); ; {
		enabled := make([]bool, len(scripts))
		for w, s := range scripts {
			left := done[w] < 3*len(s)
			enabled[w] = left && (done[w]%3 > 0 || *locks.of(s[done[w]/3], stripes) == 0)
		}
		var w int
		if w, p = pick.Next(p, enabled); w < 0 {
			for _, holder := range locks {
				r.held += min(1, holder)
			}
			return r
		}
		k := scripts[w][done[w]/3]
		switch done[w] % 3 {
		case 0:
			*locks.of(k, stripes) = w + 1
		case 1:
			i := slices.Index(r.keys, k)
			if i < 0 && len(r.keys) < room {
				i = len(r.keys)
				r.keys = append(r.keys, k)
			}
			r.got[w] = append(r.got[w], i)
		default:
			*locks.of(k, stripes) = 0
		}
		done[w]++
		r.steps++
	}
}

// checkPlain checks that Play tells what plainPlay tells, and what follows (8.2).
func checkPlain(t *testing.T, scripts [][]api.Key, room, stripes int, picks []int) {
	t.Helper()
	r, want := play(scripts, room, stripes, picks), plainPlay(scripts, room, stripes, picks)
	if !r.is(want) {
		t.Fatalf("%s\n tells %s\n want  %s", said(scripts, room, stripes, picks), said(r), said(want))
	}
	checkWhole(t, scripts, room, r)
}

// checkWhole checks that all ended, no lock is held, and one key has one index.
func checkWhole(t *testing.T, scripts [][]api.Key, room int, r told) {
	t.Helper()
	if r.steps != 3*count(scripts) || r.held != 0 || len(r.got) != len(scripts) || len(r.keys) > max(room, 0) {
		t.Fatalf("with room %d %s tell %s", room, said(scripts), said(r))
	}
	places := make(map[api.Key]int)
	for i, k := range r.keys {
		places[k] = i
	}
	told := make([]int, len(r.keys))
	for w, s := range scripts {
		if len(r.got[w]) != len(s) {
			t.Fatalf("worker %d was told %v of %s", w, r.got[w], said(s))
		}
		for i, k := range s {
			place, is := places[k]
			if !is {
				place = -1
			} else {
				told[place]++
			}
			// A key that is in the table at the end may not have been there, but then there was no room for it ever.
			if r.got[w][i] != place || place < 0 && len(r.keys) < room {
				t.Fatalf("worker %d was told %d, with room %d, of %s", w, r.got[w][i], room, said(k, r.keys))
			}
		}
	}
	if len(places) != len(r.keys) || slices.Contains(told, 0) {
		t.Fatalf("told %v times each, of %s", told, said(r.keys, scripts))
	}
}

// Promise 8.1: no keys.

func TestNoScripts(t *testing.T) {
	for _, scripts := range [][][]api.Key{nil, {}} {
		for _, picks := range [][]int{nil, {}, {0}, {3, -1}} {
			for _, n := range []int{math.MinInt, -1, 0, 1, 5, 64, math.MaxInt} {
				check(t, scripts, n, 7, picks, nil, nil, 0)
				check(t, scripts, 7, n, picks, nil, nil, 0)
			}
		}
	}
}

// Each script has its list, though it asks for nothing.
func TestScriptsWithoutKeys(t *testing.T) {
	for _, scripts := range [][][]api.Key{{nil}, {{}}, {nil, {}, nil}, make([][]api.Key, api.MaxWorkers)} {
		for _, picks := range [][]int{nil, {0}, {3, -1}} {
			check(t, scripts, 5, 1, picks, make([][]int, len(scripts)), nil, 0)
			check(t, scripts, -5, 0, picks, make([][]int, len(scripts)), nil, 0)
		}
	}
}

func TestScriptsWithoutKeysBesideOthers(t *testing.T) {
	a, b, c := at("a", 1), at("b", 2), at("c", 3)
	scripts := all(nil, script(a), script(), script(b, a), nil, script(c), nil)
	check(t, scripts, 9, 64, nil, [][]int{{}, {0}, {}, {1, 0}, {}, {2}, {}}, script(a, b, c), 12)
	// Picks count those alone that ask for something.
	checkOrder(t, scripts, 64, []int{0, 1, 2, 2}, "c a b")
	checkOrder(t, scripts, 64, []int{1, 4, 1, 0}, "b a c")
	checkOrder(t, scripts, 64, []int{-1, -1}, "c a b")
}

// Promise 8.1: one worker.

func TestOneWorker(t *testing.T) {
	a, b, c := key("a"), key("b"), key("c")
	for _, c := range []struct {
		asks []api.Key
		got  []int
		keys []api.Key
	}{
		{script(a), []int{0}, script(a)},
		{script(a, a), []int{0, 0}, script(a)},
		{script(a, b), []int{0, 1}, script(a, b)},
		{script(b, a), []int{0, 1}, script(b, a)},
		{script(a, b, a), []int{0, 1, 0}, script(a, b)},
		{script(c, b, c, a, b, a, c), []int{0, 1, 0, 2, 1, 2, 0}, script(c, b, a)},
	} {
		for _, picks := range [][]int{nil, {0}, {5, -3, 1}, lists.Span(-40, 40)} {
			for _, stripes := range []int{1, 2, 64} {
				check(t, all(c.asks), 9, stripes, picks, [][]int{c.got}, c.keys, 3*len(c.asks))
				// The same beside one that asks for nothing.
				check(t, all(nil, c.asks), 9, stripes, picks, [][]int{nil, c.got}, c.keys, 3*len(c.asks))
			}
		}
	}
}

// Promise 8.1: how much may be.

// checkNothing checks that nothing is told.
func checkNothing(t *testing.T, what string, scripts [][]api.Key) {
	t.Helper()
	for _, n := range []int{-1, 0, 1, most + 1} {
		if r := play(scripts, n, n, []int{1, 0}); !r.is(told{}) {
			t.Errorf("%s: %d lists, %d keys, %d steps, %d held", what, len(r.got), len(r.keys), r.steps, r.held)
		}
	}
}

// sized tells that many scripts of as many keys each: key k, asked for again and again.
func sized(count, n int) [][]api.Key {
	return slices.Repeat(all(slices.Repeat(script(key("k")), n)), count)
}

func TestMostWorkers(t *testing.T) {
	for _, n := range []int{1, 2} {
		got := slices.Repeat([][]int{lists.Of(n, 0)}, api.MaxWorkers)
		check(t, sized(api.MaxWorkers, n), 1, 1, nil, got, script(key("k")), 3*n*api.MaxWorkers)
	}
	checkNothing(t, "one more", sized(api.MaxWorkers+1, 1))
	checkNothing(t, "without keys", make([][]api.Key, api.MaxWorkers+1))
	checkNothing(t, "one with a key", append(make([][]api.Key, api.MaxWorkers), script(key("k"))))
	checkNothing(t, "many more", make([][]api.Key, 1<<16))
}

func TestMostKeys(t *testing.T) {
	for _, scripts := range [][][]api.Key{
		sized(1, most), append(sized(1, most), nil), append(all(nil, nil), sized(1, most)...), sized(64, most/64),
		append(sized(1, most-1), sized(1, 1)...), append(sized(1, 1), sized(1, most-1)...),
	} {
		got := make([][]int, len(scripts))
		for w, s := range scripts {
			got[w] = lists.Of(len(s), 0)
		}
		check(t, scripts, 5, 5, nil, got, script(key("k")), 3*most)
	}
	checkNothing(t, "one script", sized(1, most+1))
	checkNothing(t, "two scripts", append(sized(1, most), sized(1, 1)...))
	checkNothing(t, "the one more ahead", append(sized(1, 1), sized(1, most)...))
	checkNothing(t, "64 scripts", append(sized(63, most/64), sized(1, most/64+1)...))
	checkNothing(t, "twice as many", sized(2, most))
	checkNothing(t, "64 times as many", sized(64, most))
}

// many tells n keys, each another one.
func many(n int) []api.Key {
	var l []api.Key
	for i := range n {
		l = append(l, api.Key{Name: "k", A: i / 64, B: i % 64})
	}
	return l
}

func TestMostKeysThatAreOtherOnes(t *testing.T) {
	l := many(most)
	check(t, all(l), most, 64, nil, [][]int{lists.Span(0, most-1)}, l, 3*most)
	check(t, all(l), most-1, 64, nil, [][]int{append(lists.Span(0, most-2), -1)}, l[:most-1], 3*most)
	// The last but one, asked for again.
	check(t, all(l[:most-1], l[most-2:most-1]), most, 1, lists.Of(3*most, 0),
		[][]int{lists.Span(0, most-2), {most - 2}}, l[:most-1], 3*most)
	scripts := make([][]api.Key, api.MaxWorkers)
	for i, k := range l {
		scripts[i%7] = append(scripts[i%7], k)
	}
	for _, stripes := range []int{1, 5, 64} {
		r := play(scripts, most, stripes, lists.Span(-5000, 5000))
		checkWhole(t, scripts, most, r)
		if len(r.keys) != most {
			t.Errorf("%d keys", len(r.keys))
		}
	}
}

// Promise 8.1: room.

func TestRoom(t *testing.T) {
	a, b, c := key("a"), key("b"), key("c")
	// c is asked for where there is no room; a and b behind that; c again.
	asks := script(a, b, a, c, b, c, a)
	for _, x := range []struct {
		rooms []int
		got   []int
		keys  []api.Key
	}{
		{[]int{math.MinInt, math.MinInt32, -2, -1, 0}, lists.Of(7, -1), nil},
		{[]int{1}, []int{0, -1, 0, -1, -1, -1, 0}, script(a)},
		{[]int{2}, []int{0, 1, 0, -1, 1, -1, 0}, script(a, b)},
		{[]int{3, 4, 7, 64, 1 << 20, math.MaxInt32, math.MaxInt}, []int{0, 1, 0, 2, 1, 2, 0}, script(a, b, c)},
	} {
		for _, room := range x.rooms {
			check(t, all(asks), room, 1, nil, [][]int{x.got}, x.keys, 21)
			check(t, all(asks, nil), room, 64, []int{3}, [][]int{x.got, nil}, x.keys, 21)
		}
	}
}

// Who looks last has no room, whoever takes a lock first.
func TestRoomIsTakenByLooking(t *testing.T) {
	a, b := at("a", 1), at("b", 2)
	check(t, all(script(a), script(b)), 1, 64, []int{0, 1, 1, 0}, [][]int{{-1}, {0}}, script(b), 6)
	check(t, all(script(a), script(b)), 1, 64, []int{0, 1, 0, 1}, [][]int{{0}, {-1}}, script(a), 6)
	check(t, all(script(a), script(b, a)), 1, 64, []int{0, 1, 1, 1, 0}, [][]int{{-1}, {0, -1}}, script(b), 9)
	check(t, all(script(a, b), script(b, b)), 1, 64, []int{0, 1, 0, 1}, [][]int{{0, -1}, {-1, -1}}, script(a), 12)
}

// Promise 8.1: which keys are one.

func TestOneKeyByMany(t *testing.T) {
	a, b := at("a", 1), at("b", 2)
	for _, picks := range [][]int{nil, {1, 1, 1}, {0, 1, 0, 1}, {-1, 5, 2}} {
		check(t, all(script(a), script(a)), 9, 64, picks, [][]int{{0}, {0}}, script(a), 6)
		check(t, all(script(a), script(a)), 1, 1, picks, [][]int{{0}, {0}}, script(a), 6)
		check(t, all(script(a), script(a)), 0, 1, picks, [][]int{{-1}, {-1}}, nil, 6)
		check(t, sized(api.MaxWorkers, 3), 9, 64, picks,
			slices.Repeat([][]int{{0, 0, 0}}, api.MaxWorkers), script(key("k")), 9*api.MaxWorkers)
	}
	check(t, all(script(a, b), script(b, a)), 9, 64, nil, [][]int{{0, 1}, {1, 0}}, script(a, b), 12)
	check(t, all(script(a, b), script(b, a)), 9, 64, []int{1, 0, 1}, [][]int{{1, 0}, {0, 1}}, script(b, a), 12)
}

// apart tells keys each of which is another one than all others; of some the number (7) is one.
func apart() []api.Key {
	return []api.Key{
		{}, {Name: "a"}, {Name: "b"}, {Name: "ab"}, {Name: "a\x00"}, {Name: "\x00a"}, {Name: "A"}, {Name: "\xff"},
		{Name: "\xfe"}, {Name: "\ufffd"}, {Name: "\x00\x00\x00\x00"}, {Name: "a\x01\x00\x00\x00"},
		{A: 1}, {B: 1}, {A: -1}, {B: -1}, {A: 1, B: 1}, {A: 1, B: 2}, {A: 2, B: 1}, {A: math.MaxInt}, {A: math.MinInt},
		{B: math.MaxInt}, {B: math.MinInt}, {A: math.MinInt, B: math.MaxInt}, {A: 1<<32 - 1}, {B: 1<<32 - 1},
		{A: 1 << 32}, {B: 1 << 32}, {A: 1 << 40}, {A: 1<<32 + 1}, {B: 1<<32 + 1}, {A: 1 << 32, B: 1 << 32},
		{Name: "a", A: 1}, {Name: "a", B: 1}, {Name: "a", A: 1 << 32}, {Name: "b", A: 1}, {Name: "a1"}, {Name: "a", A: 10},
		{Name: strings.Repeat("a", 1000)}, {Name: strings.Repeat("a", 1001)}, {Name: strings.Repeat("a", 999) + "b"},
	}
}

func TestKeysThatAreOtherOnesInOneThing(t *testing.T) {
	l := apart()
	n := len(l)
	for _, stripes := range []int{1, 64} {
		check(t, all(slices.Concat(l, l)), n, stripes, nil, [][]int{slices.Repeat(lists.Span(0, n-1), 2)}, l, 6*n)
	}
	for i, a := range l {
		for j, b := range l {
			if i != j {
				check(t, all(script(a), script(b, a)), 9, 1, nil, [][]int{{0}, {1, 0}}, script(a, b), 9)
				check(t, all(script(a), script(b, a)), 1, 1, nil, [][]int{{0}, {-1, 0}}, script(a), 9)
			}
		}
	}
}

// A text that is built up is the same key as one that stands there.
func TestKeyIsItsBytes(t *testing.T) {
	name := string([]byte{'a', 0xff, 'b'})
	check(t, all(script(key("a\xffb")), script(key(name), key(name+"c"))), 9, 3, nil,
		[][]int{{0}, {0, 1}}, script(key("a\xffb"), key("a\xffbc")), 9)
}

// Promise 8.1: stripes.

// sameStripe tells whether two workers, each of which asks for one of the keys, wait for one another: where they do not,
// the second one looks first.
func sameStripe(a, b api.Key, stripes int) bool {
	_, keys, _, _ := Play(all(script(a), script(b)), 2, stripes, []int{0, 1, 1, 1})
	return keys[0] == a
}

func TestStripes(t *testing.T) {
	l := append(many(12), key("a"), key("b"), api.Key{Name: "a", A: 1 << 32, B: -1}, key("a\xff"))
	for _, a := range l {
		for _, b := range l {
			for stripes := 1; stripes <= 64 && a != b; stripes++ {
				if want := hash.Of(a)%uint32(stripes) == hash.Of(b)%uint32(stripes); sameStripe(a, b, stripes) != want {
					t.Fatalf("of %d stripes %s have one: %v", stripes, said(a, b), !want)
				}
			}
		}
	}
}

// The numbers of these keys were worked out by another program: they are told with the chapter of hash.
func TestStripesOfKeysByNumber(t *testing.T) {
	// Of is 2615243109, 1736567121, 3444284543: odd, odd, odd; modulo 3: 0, 0, 2; modulo 64: 37, 17, 63.
	none, n, list := key(""), key("n"), api.Key{Name: "List", A: 7, B: 12345}
	for _, c := range []struct {
		a, b    api.Key
		stripes int
		want    bool
	}{
		{none, n, 1, true}, {none, n, 2, true}, {none, n, 3, true}, {none, n, 64, false}, {none, n, 4, true},
		{none, list, 2, true}, {none, list, 3, false}, {n, list, 3, false}, {n, list, 64, false}, {none, list, 4, false},
	} {
		if got := sameStripe(c.a, c.b, c.stripes); got != c.want || sameStripe(c.b, c.a, c.stripes) != c.want {
			t.Errorf("of %d stripes %s have one: %v", c.stripes, said(c.a, c.b), got)
		}
	}
}

func TestStripesAreCut(t *testing.T) {
	l := []api.Key{at("a", 0), at("b", 1), at("c", 2), at("d", 63), at("e", 63)}
	for i, a := range l {
		for _, b := range l[:i] {
			for _, stripes := range []int{math.MinInt, math.MinInt32, -64, -2, -1, 0, 1} {
				if !sameStripe(a, b, stripes) {
					t.Errorf("of %d stripes %s have another one each", stripes, said(a, b))
				}
			}
			for _, stripes := range []int{64, 65, 66, 128, 1 << 20, math.MaxInt32, math.MaxInt} {
				if want := a.Name+b.Name == "ed"; sameStripe(a, b, stripes) != want {
					t.Errorf("of %d stripes %s have one: %v", stripes, said(a, b), !want)
				}
			}
		}
	}
}

// Promise 8.1: who waits.

// trio tells three workers that ask for a, b and c, of those stripes.
func trio(a, b, c int) [][]api.Key {
	return all(script(at("a", a)), script(at("b", b)), script(at("c", c)))
}

func TestLockOfOwnStripeThatOtherHas(t *testing.T) {
	l := trio(5, 5, 5)
	// Who takes the lock first does all of its steps first, whatever is picked: no other one is enabled.
	checkOrder(t, l, 64, []int{0, 1, 1, 0, 1, 1, 1}, "a b c")
	checkOrder(t, l, 64, []int{0, 1, 1, 1, 0, 0, 0}, "a c b")
	checkOrder(t, l, 64, []int{1, 2, 2, 0, 2, 2, 2}, "b a c")
	checkOrder(t, l, 64, []int{1, 0, 0, 1, 0, 0, 0}, "b c a")
	checkOrder(t, l, 64, []int{2, 1, 1, 0, 1, 1, 1}, "c a b")
	checkOrder(t, l, 64, []int{-1, -1, -1, -1, -1, -1, -1}, "c b a")
}

func TestLockOfAnotherStripeThatOtherHas(t *testing.T) {
	l := trio(1, 2, 3)
	checkOrder(t, l, 64, []int{0, 1, 2, 2, 1, 0}, "c b a")
	checkOrder(t, l, 64, []int{0, 1, 2, 1, 0, 2}, "b a c")
	checkOrder(t, l, 64, []int{0, 1, 1, 1, 1, 1}, "b c a")
	checkOrder(t, l, 64, []int{2, 0, 0, 0, 0, 0}, "a b c")
	checkOrder(t, l, 64, []int{2, 0, 0, 0, 1, 1}, "a c b")
	checkOrder(t, l, 64, []int{1, 1, 0, 2, 2, 0}, "b c a")
}

// Of the workers at one lock one alone is enabled; the one of another stripe is, too, and picks count these two.
func TestLockOfOwnStripeBesideAnother(t *testing.T) {
	l := trio(1, 1, 2)
	checkOrder(t, l, 64, []int{0, 1, 1, 1}, "c a b") // a locks; c does all; then a alone is enabled
	checkOrder(t, l, 64, []int{0, 2, 0, 0, 0}, "a b c")
	checkOrder(t, l, 64, []int{0, 2, 0, 1, 1}, "a c b")
	checkOrder(t, l, 64, []int{1, 0, 0, 1, 1, 1}, "b c a")
	checkOrder(t, l, 64, []int{1, 1, 1, 1, 0, 0}, "c b a")
	checkOrder(t, l, 64, []int{2, 2, 0, 1, 1, 0}, "c a b")
	checkOrder(t, trio(2, 1, 1), 64, []int{1, 1, 2, 1, 0}, "b a c")
	checkOrder(t, trio(1, 2, 1), 64, []int{2, 0, 0, 0, 0}, "b c a")
}

// Each that waits is enabled as soon as the lock is let go, and so is the one that had it and asks for more.
func TestLockThatIsLetGo(t *testing.T) {
	l := all(script(at("a", 1), at("A", 1)), script(at("b", 1), at("B", 1)), script(at("c", 1)), script(at("d", 2)))
	// Times 1 to 3: worker 0. At time 4 all four are enabled.
	checkOrder(t, l, 64, lists.Of(12, 0), "a A b B c d")
	checkOrder(t, l, 64, lists.Of(9, 0), "a A b c d B")
	checkOrder(t, l, 64, []int{0, 0, 0, 1, 0, 0, 1, 0, 0}, "a b B c d A")
	checkOrder(t, l, 64, []int{0, 0, 0, 2, 0, 0, 1, 0, 0, 1, 0, 0}, "a c b B d A")
	checkOrder(t, l, 64, []int{0, 0, 0, 3, 3, 3, 2, 0, 0, 1}, "a d c b A B")
	checkOrder(t, l, 64, []int{0, 0, 0, 4, 4, 4, 0, 3}, "a A b d c B")
	// It is not let go by looking: at time 3 the lock's holder and the last one are enabled, those at the lock not.
	checkOrder(t, l, 64, []int{0, 0, 1, 1, 1, 0, 1, 0, 0}, "a d b c A B")
}

// A worker has no lock between two keys: another one takes it, though both are of one stripe.
func TestLockIsLetGoBetweenTwoOfOneStripe(t *testing.T) {
	a, b := at("a", 1), at("b", 1)
	check(t, all(script(a, a, a), script(b)), 9, 64, []int{0, 0, 0, 1}, [][]int{{0, 0, 0}, {1}}, script(a, b), 12)
	check(t, all(script(a, a, a), script(b)), 1, 64, []int{1}, [][]int{{-1, -1, -1}, {0}}, script(b), 12)
	checkOrder(t, all(script(a, at("c", 1)), script(b)), 64, []int{0, 0, 0, 1, 1, 1}, "a b c")
	checkOrder(t, all(script(a, at("c", 1)), script(b)), 64, nil, "a b c")
}

// The lock is that of the key that is asked for, not that of the first one.
func TestEachKeyHasItsLock(t *testing.T) {
	l := all(script(at("a", 1), at("A", 2)), script(at("b", 1)), script(at("c", 2)))
	// a is done; A's lock is taken; b is free, c waits.
	checkOrder(t, l, 64, []int{0, 0, 0, 0, 1, 1, 1}, "a b A c")
	// a is done; c's lock is taken: A waits, and picks count b and c alone.
	checkOrder(t, l, 64, []int{0, 0, 0, 2, 0, 0, 0}, "a b c A")
	checkOrder(t, l, 64, []int{0, 0, 0, 2, 1, 1, 0}, "a c A b")
}

// A worker that has asked for all is not enabled: picks don't count it.
func TestWorkerThatHasAskedForAll(t *testing.T) {
	l := all(script(at("a", 1)), script(at("b", 2), at("B", 2)), script(at("c", 3), at("C", 3)))
	checkOrder(t, l, 64, []int{0, 0, 0, 0, 1, 0, 1}, "a b c B C")
	checkOrder(t, l, 64, []int{0, 0, 0, 1, 1, 1, 1, 1, 1, 0}, "a c C b B")
	checkOrder(t, l, 64, []int{1, 1, 1, 1, 1, 1, 1, 1, 1, 1, 1, 1, 0}, "b B c C a")
	// It has not, as long as it has not let go its last lock: at time 3 there are three.
	checkOrder(t, l, 64, []int{0, 0, 1, 1, 2, 2}, "a b c B C")
	checkOrder(t, l, 64, []int{0, 0, 2, 2, 0, 1, 1}, "a c C b B")
}

// Promise 8.1: picks.

func TestInTurnWithoutPicks(t *testing.T) {
	for _, picks := range [][]int{nil, {}} {
		checkOrder(t, trio(1, 1, 1), 64, picks, "a b c")
		checkOrder(t, trio(1, 2, 3), 64, picks, "a b c")
		checkOrder(t, trio(2, 1, 1), 64, picks, "a b c")
		// Worker 0 locks, then 2, since 1 waits; 0 and 2 look.
		checkOrder(t, trio(1, 1, 2), 64, picks, "a c b")
		// Of one stripe the turn behind worker 0 is 1's, though 0 asks for more.
		l := all(script(at("a", 1), at("A", 1)), script(at("b", 1), at("B", 1)), nil, script(at("d", 1), at("D", 1)))
		checkOrder(t, l, 64, picks, "a b d A B D")
		// Of many stripes all lock, look and let go in turn.
		l = all(script(at("a", 1), at("A", 2)), script(at("b", 3), at("B", 4)), script(at("c", 5), at("C", 6)))
		checkOrder(t, l, 64, picks, "a b c A B C")
	}
}

// Behind the picks who is next is the first one behind the last.
func TestTurnBehindThePicks(t *testing.T) {
	checkOrder(t, trio(1, 2, 3), 64, []int{1}, "b c a")
	checkOrder(t, trio(1, 2, 3), 64, []int{2}, "c a b")
	checkOrder(t, trio(1, 2, 3), 64, []int{-1, 0}, "c a b") // c and a lock; behind a, b does, then c looks
	checkOrder(t, trio(1, 2, 3), 64, []int{0, -1}, "a c b") // a and c lock; behind c, a looks, b locks, c looks
	checkOrder(t, trio(1, 1, 1), 64, []int{1}, "b c a")
	checkOrder(t, trio(1, 1, 1), 64, []int{2}, "c a b")
	checkOrder(t, trio(1, 1, 1), 64, []int{1, 0, 0, 0}, "b a c")
}

// A pick is used at each time, also where one alone is enabled, and counts modulo how many are.
func TestPicksBelowNothingAndBeyond(t *testing.T) {
	l := trio(1, 2, 3)
	for _, picks := range [][]int{
		{2, 1, 0}, {-1, -2, -3}, {5, 4, 3}, {3*1000 + 2, -3*1000 + 1, -3 * 1000}, {math.MinInt + 1, math.MaxInt, 0},
	} {
		// At time 1 c locks, at time 2 b; at time 3 a does; then in turn b, c, a look.
		checkOrder(t, l, 64, picks, "b c a")
	}
	// math.MaxInt is 1 modulo 3, math.MinInt is 1.
	checkOrder(t, l, 64, []int{math.MaxInt}, "b c a")
	checkOrder(t, l, 64, []int{math.MinInt}, "b c a")
	// Of one stripe: two are used where one alone is enabled.
	for _, x := range []int{math.MinInt, -7, 0, 9, math.MaxInt} {
		checkOrder(t, trio(1, 1, 1), 64, []int{2, x, x, 1}, "c b a")
		checkOrder(t, trio(1, 1, 1), 64, []int{2, x, x, 0}, "c a b")
	}
}

func TestMorePicksThanSteps(t *testing.T) {
	picks := []int{2, 2, 0, 0, 1, 0, 0, 0, 0}
	for _, more := range [][]int{{}, {0}, {-5, 7, 1}, lists.Span(0, 1<<20)} {
		checkOrder(t, trio(1, 2, 3), 64, append(slices.Clone(picks), more...), "c a b")
	}
}

// Each worker of the most, alone and picked of all.
func TestEachOfTheMostWorkers(t *testing.T) {
	for w := range api.MaxWorkers {
		alone := make([][]api.Key, api.MaxWorkers)
		alone[w] = script(key("a"))
		got := make([][]int, api.MaxWorkers)
		got[w] = []int{0}
		check(t, alone, 1, 64, nil, got, script(key("a")), 3)
		check(t, alone[:w+1], 1, 1, []int{63, -1}, got[:w+1], script(key("a")), 3)
		check(t, alone, 0, 1, []int{w}, replaced(got, w, []int{-1}), nil, 3)
		full := make([][]api.Key, api.MaxWorkers)
		for v, k := range many(api.MaxWorkers) {
			full[v] = script(k)
		}
		r := play(full, 2, 1, []int{w})
		behind := (w + 1) % api.MaxWorkers
		if r.got[w][0] != 0 || r.got[behind][0] != 1 || !slices.Equal(r.keys, script(full[w][0], full[behind][0])) {
			t.Errorf("of all, %d picked: %s", w, said(r))
		}
		checkPlain(t, full, 2, 1, []int{w})
		checkPlain(t, full, 99, 64, []int{w, -w, w * w})
	}
}

// replaced tells l with x at place i.
func replaced(l [][]int, i int, x []int) [][]int {
	l = slices.Clone(l)
	l[i] = x
	return l
}

// Promise 8.1: each time which worker does which of its steps.

// The lock is taken at the first step of a key, and holds through the second one; what is told is told at the second one.
func TestThreeSteps(t *testing.T) {
	a, b, x := at("a", 1), at("b", 1), at("x", 2)
	l := all(script(a), script(b), script(x))
	// Worker 0 does 0 to 3 steps ahead of worker 2's look; worker 1 is enabled ahead of its first and behind its third.
	check(t, l, 9, 64, []int{2, 2, 0}, [][]int{{1}, {2}, {0}}, script(x, a, b), 9)
	check(t, l, 9, 64, []int{2, 0, 1, 0}, [][]int{{1}, {2}, {0}}, script(x, a, b), 9)
	check(t, l, 9, 64, []int{2, 0, 0, 1, 0}, [][]int{{0}, {2}, {1}}, script(a, x, b), 9)
	check(t, l, 9, 64, []int{2, 0, 0, 0, 1, 0}, [][]int{{0}, {2}, {1}}, script(a, x, b), 9)
	check(t, l, 9, 64, []int{2, 0, 0, 0, 0, 0}, [][]int{{0}, {1}, {2}}, script(a, b, x), 9)
}

func TestEachTellsInItsOwnOrder(t *testing.T) {
	a, b, c, d := at("a", 1), at("b", 2), at("c", 3), at("d", 4)
	scripts := all(script(a, b, c, d), nil, script(d, c, b, a), script(b, b, d))
	check(t, scripts, 9, 64, nil, [][]int{{0, 2, 3, 1}, {}, {1, 3, 2, 0}, {2, 2, 1}}, script(a, d, b, c), 33)
	check(t, scripts, 9, 64, lists.Of(99, 0), [][]int{{0, 1, 2, 3}, {}, {3, 2, 1, 0}, {1, 1, 3}}, script(a, b, c, d), 33)
	check(t, scripts, 9, 64, lists.Of(99, -1), [][]int{{3, 0, 2, 1}, {}, {1, 2, 0, 3}, {0, 0, 1}}, script(b, d, c, a), 33)
	check(t, scripts, 2, 64, lists.Of(99, -1), [][]int{{-1, 0, -1, 1}, {}, {1, -1, 0, -1}, {0, 0, 1}}, script(b, d), 33)
}

func TestTwoWorkersInAllTurns(t *testing.T) {
	a, b, c := at("a", 1), at("b", 1), at("c", 2)
	lists.Each(10, []int{0, 1}, func(picks []int) {
		for _, scripts := range [][][]api.Key{
			all(script(a, b), script(b, a)), all(script(a, c), script(c, b)), all(script(a, c), script(a, c)),
			all(script(a, a, c), script(b)), all(script(c), script(a, b, c)),
		} {
			for room := range 4 {
				checkPlain(t, scripts, room, 64, picks)
			}
			checkPlain(t, scripts, 3, 1, picks)
		}
	})
}

func TestThreeWorkersInAllTurns(t *testing.T) {
	a, b, c := at("a", 1), at("b", 1), at("c", 2)
	lists.Each(8, []int{0, 1, 2}, func(picks []int) {
		checkPlain(t, all(script(a), script(b), script(c, a)), 9, 64, picks)
		checkPlain(t, all(script(a), script(b), script(c)), 2, 64, picks)
		checkPlain(t, all(script(b, c), script(b), script(a)), 2, 1, picks)
	})
}

// Promises 8.1 and 8.2: many workers.

// drawn tells what is drawn by the seed.
func drawn(seed int) (scripts [][]api.Key, room, stripes int, picks []int) {
	next := plays.Below(seed)
	names := []string{"a", "b", "->", ",", "\xff", ""}[:1+next(6)]
	high := 1 + next(4)
	for range next(9) {
		var s []api.Key
		for range next(8) {
			s = append(s, api.Key{Name: names[next(len(names))], A: next(high) - 1, B: next(high) - 1})
		}
		scripts = append(scripts, s)
	}
	for range next(200) {
		picks = append(picks, next(100)-50)
	}
	return scripts, next(20) - 2, next(70) - 2, picks
}

func TestManyThatAreDrawn(t *testing.T) {
	for seed := range 5000 {
		scripts, room, stripes, picks := drawn(seed)
		checkPlain(t, scripts, room, stripes, picks)
		checkPlain(t, scripts, room, 1+stripes%4, nil)
	}
}

func TestTheMostWorkersAtOneLock(t *testing.T) {
	scripts := make([][]api.Key, api.MaxWorkers)
	for w := range scripts {
		for i := range 9 {
			scripts[w] = append(scripts[w], api.Key{Name: "k", A: (w + i) % 70, B: w % 2})
		}
	}
	for _, stripes := range []int{1, 2, 64} {
		for _, room := range []int{0, 50, 1000} {
			checkPlain(t, scripts, room, stripes, nil)
			checkPlain(t, scripts, room, stripes, lists.Span(-1000, 1000))
			checkPlain(t, scripts, room, stripes, lists.Of(5000, 63))
		}
	}
}

// R1 and R5: whatever is handed in, the call ends, does not panic, and tells the same again.

func TestWhateverIsHandedIn(t *testing.T) {
	wild := []int{math.MinInt, math.MinInt32, -1, 0, 1, 2, 63, 64, 65, math.MaxInt32, math.MaxInt}
	l := apart()
	scripts := all(l, nil, slices.Repeat(l, 2), l[3:4], script(), slices.Concat(l[20:], l[:20]))
	for _, room := range wild {
		for _, stripes := range wild {
			for _, picks := range [][]int{nil, wild, slices.Repeat(wild, 99)} {
				checkPlain(t, scripts, room, stripes, picks)
			}
		}
	}
}

// A table of many keys is told in one order, not in that of a map.
func TestTheSameAgain(t *testing.T) {
	scripts := all(many(500), apart(), many(300)[100:], nil)
	want := play(scripts, 450, 7, lists.Span(-900, 900))
	for range 50 {
		if r := play(scripts, 450, 7, lists.Span(-900, 900)); !r.is(want) {
			t.Fatalf("the same call tells another thing")
		}
		play(all(apart()), 3, 3, nil)
	}
}

func TestLongNames(t *testing.T) {
	long := strings.Repeat("\xffx", 1<<20)
	a, b := key(long), key(long+"y")
	check(t, all(script(a, b, a), script(b, a)), 2, 64, []int{0, 0, 0}, [][]int{{0, 1, 0}, {1, 0}}, script(a, b), 15)
	check(t, all(script(a, b, a), script(b, b)), 1, 1, []int{0}, [][]int{{0, -1, 0}, {-1, -1}}, script(a), 15)
}

// R3: what is handed in, what is told.

// ordinary tells scripts and picks with spare room, in new memory.
func ordinary() (scripts [][]api.Key, picks []int) {
	a, b, c := at("a", 1), at("b", 1), at("c", 2)
	scripts = all(lists.Roomy(script(a, b, c), key("x")), nil, lists.Roomy(script(c, a), key("x")), script(b))
	return lists.Roomy(scripts, script(key("y"))), lists.Roomy([]int{2, 0, 1, -1, 2}, 1)
}

// whole tells the lists with their spare room, in new memory.
func whole(l [][]api.Key) [][]api.Key {
	var r [][]api.Key
	for _, s := range l[:cap(l)] {
		r = append(r, slices.Clone(s[:cap(s)]))
	}
	return r
}

func TestNothingHandedInIsChanged(t *testing.T) {
	scripts, picks := ordinary()
	wasScripts, wasPicks := whole(scripts), slices.Clone(picks[:cap(picks)])
	for _, room := range []int{0, 2, 9} {
		scribble(play(scripts, room, 64, picks))
		if !slices.EqualFunc(whole(scripts), wasScripts, slices.Equal[[]api.Key]) ||
			!slices.Equal(picks[:cap(picks)], wasPicks) {
			t.Errorf("what was handed in is now %s", said(whole(scripts), picks[:cap(picks)]))
		}
	}
}

// scribble writes into all that was told, and into its spare room.
func scribble(r told) {
	for _, l := range r.got {
		lists.Scribble(append(l, -77), -77)
		lists.Scribble(l, -77)
	}
	lists.Scribble(append(r.got, nil), []int{-77})
	lists.Scribble(r.got, []int{-77})
	lists.Scribble(append(r.keys, key("no")), key("no"))
	lists.Scribble(r.keys, key("no"))
}

func TestSpareRoomIsNotPlayed(t *testing.T) {
	scripts, picks := ordinary()
	a, b, c := at("a", 1), at("b", 1), at("c", 2)
	bare := play(all(script(a, b, c), nil, script(c, a), script(b)), 9, 64, []int{2, 0, 1, -1, 2})
	if r := play(scripts, 9, 64, picks); !r.is(bare) {
		t.Errorf("with spare room %s, without %s", said(r), said(bare))
	}
}

func TestWhatIsToldIsNewMemory(t *testing.T) {
	scripts, picks := ordinary()
	one, other := play(scripts, 2, 64, picks), play(scripts, 2, 64, picks)
	want := one.copied()
	for _, s := range scripts {
		lists.Scribble(s, key("no"))
	}
	lists.Scribble(scripts, nil)
	lists.Scribble(picks, -77)
	if !one.is(want) {
		t.Errorf("what was told became %s, was %s", said(one), said(want))
	}
	scribble(one)
	if !other.is(want) {
		t.Errorf("what was told became %s, was %s", said(other), said(want))
	}
	scripts, picks = ordinary()
	if again := play(scripts, 2, 64, picks); !again.is(want) {
		t.Errorf("what is told is now %s, was %s", said(again), said(want))
	}
}

// No two lists of one answer share memory, spare room too.
func TestListsOfOneAnswerAreApart(t *testing.T) {
	scripts, picks := ordinary()
	want := play(scripts, 9, 64, picks)
	for w := range want.got {
		r := play(scripts, 9, 64, picks)
		lists.Scribble(append(r.got[w], -77), -77)
		lists.Scribble(r.got[w], -77)
		for v := range r.got {
			if v != w && !slices.Equal(r.got[v], want.got[v]) {
				t.Errorf("written into list %d, list %d is %v", w, v, r.got[v])
			}
		}
		if !slices.Equal(r.keys, want.keys) {
			t.Errorf("written into list %d, the keys are %s", w, said(r.keys))
		}
	}
}
