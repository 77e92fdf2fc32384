package plays

import (
	"slices"
	"testing"

	"warp/api"
)

func TestOps(t *testing.T) {
	want := []api.Op{{Kind: api.OFind}, {Kind: api.OSame}, {Kind: api.OUnite}}
	if len(Ops(0)) != 0 || !slices.Equal(Ops(1), want) {
		t.Errorf("of one element there are %v", Ops(1))
	}
	all := make(map[api.Op]int)
	for _, o := range Ops(4) {
		all[o]++
	}
	if len(all) != 4+2*16 || len(Ops(4)) != len(all) {
		t.Errorf("of four elements there are %v", Ops(4))
	}
}

func TestOfTwo(t *testing.T) {
	type key struct {
		a, b api.Op
		at   [turns]int
	}
	all := make(map[key]int)
	OfTwo(func(prio []int, scripts [][]api.Op, picks []int) {
		if len(prio) != 3 || len(scripts) != 2 || len(scripts[0]) != 1 || len(scripts[1]) != 1 || len(picks) != turns {
			t.Fatalf("%v, %v, %v", prio, scripts, picks)
		}
		all[key{scripts[0][0], scripts[1][0], [turns]int(picks)}]++
	})
	if want := len(Ops(3)) * len(Ops(3)) << turns; len(all) != want {
		t.Errorf("%d, want %d", len(all), want)
	}
}

func TestBelow(t *testing.T) {
	for seed := range 5 {
		one, other, next := Below(seed), Below(seed), Below(seed+1)
		count, apart := make([]int, 6), false
		for range 600 {
			x := one(6)
			count[x]++
			apart = apart || x != next(6)
			if x != other(6) {
				t.Fatalf("seed %d is not the same again", seed)
			}
		}
		if slices.Min(count) == 0 || !apart {
			t.Errorf("seed %d tells each of six %v times", seed, count)
		}
	}
}

func TestDrawn(t *testing.T) {
	kinds, most, none := make([]int, 5), 0, 0
	for seed := range 200 {
		prio, scripts, _ := Drawn(seed)
		most = max(most, len(scripts))
		for _, s := range scripts {
			for _, o := range s {
				kinds[o.Kind]++
				if o.X < 0 || o.X >= len(prio) {
					none++
				}
			}
		}
	}
	if slices.Min(kinds) == 0 || most < 7 || none == 0 {
		t.Errorf("%v of the kinds, %d workers, %d elements that are none", kinds, most, none)
	}
}
