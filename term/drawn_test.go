package term

import (
	"fmt"
	"testing"

	"warp/api"
	"warp/lists"
	"warp/plays"
	"warp/types"
)

// Drawn types, and all small ones, held against what the chapter says.

// changed tells a drawn type with so many changes: with some it may be none.
func changed(next func(int) int, times int) api.Type {
	deep := 1 + next(6)
	if next(20) == 0 {
		deep = 8
	}
	y := types.Drawn(next, deep, 1+next(40))
	for range times {
		y = types.Changed(next, y)
	}
	return y
}

// put tells drawn types to be put for variables, some of which may be no types.
func put(next func(int) int) []api.Type {
	var l []api.Type
	for range next(30) {
		y := types.Drawn(next, 1+next(3), 40)
		if next(4) == 0 {
			y = types.Changed(next, y)
		}
		l = append(l, y)
	}
	return l
}

// count counts what y has in it.
func count(seen map[string]int, y api.Type) {
	seen[fmt.Sprint("may be: ", plainMay(y))]++
	if !plainMay(y) {
		return
	}
	seen[fmt.Sprint("variables: ", min(len(plainVars(y)), 5))]++
	seen[fmt.Sprint("deep: ", plainDeep(y))]++
	if types.Told(plainCanon(y)) == types.Told(y) {
		seen["its own Canon"]++
	} else {
		seen["another Canon"]++
	}
	if plainSize(y) > api.MaxSize {
		seen["too large"]++
	}
}

func TestDrawnTypes(t *testing.T) {
	next, seen := plays.Below(173), map[string]int{}
	for i := range 6000 {
		y := changed(next, i%3)
		checkPlain(t, y, types.Changed(next, y), put(next))
		if plainMay(y) {
			checkCanon(t, plainCanon(y), plainCanon(y))
		}
		if count(seen, y); t.Failed() {
			t.Fatalf("type %d", i)
		}
	}
	for _, s := range []string{"may be: true", "may be: false", "variables: 0", "variables: 1", "variables: 2",
		"variables: 3", "variables: 4", "variables: 5", "deep: 1", "deep: 2", "deep: 3", "deep: 4", "deep: 5",
		"deep: 6",
		"its own Canon", "another Canon"} {
		if seen[s] < 100 {
			t.Errorf("%s: %d times", s, seen[s])
		}
	}
	if seen["too large"] < 5 {
		t.Errorf("too large: %d times", seen["too large"])
	}
}

func TestDrawnTexts(t *testing.T) {
	next := plays.Below(174)
	for i := range 3000 {
		y := types.Drawn(next, 1+i%8, 104)
		checkShown(t, y)
		for range next(20) {
			y = ways()[next(7)](y)
		}
		checkShown(t, y)
		if t.Failed() {
			t.Fatalf("type %d", i)
		}
	}
}

func TestTextsOfSmallTypes(t *testing.T) {
	for _, y := range append(small(2, append(types.Vars(0, 26, 53), types.Con("Int"))), small(3, types.Vars(2))...) {
		checkPlain(t, y, types.Var(2), types.All("L a", "a -> Int", "Int"))
		checkShown(t, y)
	}
}

// Two types that are unlike have two texts.
func TestTextsAreOnesOwn(t *testing.T) {
	seen, l := map[string]string{}, small(2, append(types.Vars(0, 1, 26, 27), types.All("Int", "L", "X_1")...))
	l = append(append(l, small(3, types.Vars(0, 27))...), small(3, types.All("L", "b"))...)
	next := plays.Below(175)
	for range 3000 {
		l = append(l, types.Drawn(next, 4, 60))
	}
	for _, y := range l {
		if other, is := seen[Text(y)]; is && other != types.Told(y) {
			t.Errorf("%s, %s: one text, %s", types.Cut(y), other, Text(y))
		}
		seen[Text(y)] = types.Told(y)
	}
}

// TestDrawnNumbers gives the variables of drawn types other numbers: all other ones, or two of them one.
func TestDrawnNumbers(t *testing.T) {
	next, one := plays.Below(176), 0
	for i := range 3000 {
		y := types.Drawn(next, 2+i%4, 6)
		numbers := lists.Span(0, 40)
		lists.Shuffle(next, numbers)
		z := plainSubst(y, types.Vars(numbers...))
		checkOneCanon(t, y, z, true)
		numbers[next(6)] = numbers[next(6)]
		w := plainSubst(y, types.Vars(numbers...))
		checkOneCanon(t, z, w, renames(z, w))
		other := types.Changed(next, z)
		if plainMay(other) {
			checkOneCanon(t, y, other, renames(y, other))
		}
		if !renames(z, w) {
			one++
		}
	}
	if one < 300 {
		t.Errorf("two variables became one: %d times", one)
	}
}

// TestDrawnSubsts puts for variables, and again for those of what was put: that is what putting both at once tells.
func TestDrawnSubsts(t *testing.T) {
	next := plays.Below(177)
	for range 1000 {
		y := types.Drawn(next, 4, 8)
		var first, second, both []api.Type
		for range 8 {
			first = append(first, types.Drawn(next, 3, 8))
			second = append(second, types.Drawn(next, 1+next(3), 8))
		}
		for _, x := range first {
			both = append(both, Subst(x, second))
		}
		checkSubst(t, Subst(y, first), second, Subst(y, both))
		checkSubst(t, y, types.Vars(lists.Span(0, 7)...), y)
	}
}
