package data

import (
	"fmt"
	"strings"
	"testing"

	"warp/api"
	"warp/parse"
	"warp/progs"
)

// told tells all that is in l, cut where it is long.
func told(l []api.Data) string {
	s := progs.Told(api.Program{Datas: l})
	return fmt.Sprintf("%s of %d bytes", s[:min(len(s), 400)], len(s))
}

func variable(n int) api.Type { return api.Type{Kind: api.YVar, N: n} }

func typ(name string, kids ...api.Type) api.Type {
	return api.Type{Kind: api.YCon, Name: name, Kids: kids}
}

// kids tells n right types.
func kids(n int) []api.Type {
	l := make([]api.Type, n)
	for i := range l {
		l[i] = typ("Int")
	}
	return l
}

// declared tells a Data of those variables, whose Cons have no Args.
func declared(name, vars, cons string) api.Data {
	d := api.Data{Name: name, Vars: strings.Fields(vars)}
	for _, c := range strings.Fields(cons) {
		d.Cons = append(d.Cons, api.Con{Name: c})
	}
	return d
}

// one tells a Data of one Con with those Args.
func one(name, vars string, args ...api.Type) api.Data {
	d := declared(name, vars, "C"+name)
	d.Cons[0].Args = args
	return d
}

// parsed tells the Datas of a text.
func parsed(t *testing.T, src string) []api.Data {
	t.Helper()
	p, e, at := parse.Parse(src)
	if e != api.OK {
		t.Fatalf("%q: error %d at %d", src, e, at)
	}
	return p.Datas
}

// place is where something stands: a Data, or a Con of it, if con is not -1.
type place struct{ data, con int }

// none is the place of nothing.
var none = place{-1, -1}

// atOf tells what At there is at p.
func atOf(l []api.Data, p place) *int {
	if p.con < 0 {
		return &l[p.data].At
	}
	return &l[p.data].Cons[p.con].At
}

// places tells all places of l, in order.
func places(l []api.Data) []place {
	var all []place
	for d := range l {
		all = append(all, place{d, -1})
		for c := range l[d].Cons {
			all = append(all, place{d, c})
		}
	}
	return all
}

// putAts puts another number at each place: rising ones if step is above 0, and falling ones if it is below.
func putAts(l []api.Data, first, step int) {
	for i, p := range places(l) {
		*atOf(l, p) = first + step*i
	}
}

// checkWrong checks that the first that may not be is at p, or that there is none, whatever numbers the places have.
func checkWrong(t *testing.T, l []api.Data, p place) {
	t.Helper()
	for _, step := range []int{1, -1, 1 << 40} {
		putAts(l, 1000*step, step)
		checkOnce(t, l, p)
		putAts(l, -20, step)
		checkOnce(t, l, p)
	}
}

// checkOnce checks that the first that may not be is at p, and that l stays what it is.
func checkOnce(t *testing.T, l []api.Data, p place) {
	t.Helper()
	was, wantE, wantAt := progs.Told(api.Program{Datas: l}), api.OK, 0
	if p != none {
		wantE, wantAt = api.ErrData, *atOf(l, p)
	}
	for range 2 {
		if e, at := Check(l); e != wantE || at != wantAt {
			t.Errorf("%s: %d at %d, want %d at %d", told(l), e, at, wantE, wantAt)
		}
	}
	if progs.Told(api.Program{Datas: l}) != was {
		t.Errorf("%s: it was another", told(l))
	}
}

// checkText checks what Check tells of a text: `#` stands ahead of the CON that may not be, if there is one.
func checkText(t *testing.T, src string) {
	t.Helper()
	wantE, wantAt := api.OK, 0
	if at := strings.Index(src, "#"); at >= 0 {
		wantE, wantAt = api.ErrData, at
	}
	src = strings.Replace(src, "#", "", 1)
	if e, at := Check(parsed(t, src)); e != wantE || at != wantAt {
		t.Errorf("%q: %d at %d, want %d at %d", src, e, at, wantE, wantAt)
	}
}
