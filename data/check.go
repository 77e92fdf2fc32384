package data

import "warp/api"

const (
	integers = "Int"
	truths   = "Bool"
	arrow    = "->"
	comma    = ","
)

// shape is a name of types, with how many kids one of that name has.
type shape struct {
	name string
	kids int
}

// checker holds declarations against all that there are, and against those ahead. What is in a map has a number that
// is not 0.
type checker struct {
	shapes map[shape]int  // those that types may have
	datas  map[string]int // names that no Data may have any more
	cons   map[string]int // names that no Con may have any more
}

func newChecker(l []api.Data) checker {
	return checker{shapes: shapesOf(l), datas: map[string]int{integers: 1, truths: 1}, cons: map[string]int{}}
}

// shapesOf tells what shapes types may have where l is declared: a Data of a name that there is already adds none.
func shapesOf(l []api.Data) map[shape]int {
	shapes := map[shape]int{{integers, 0}: 1, {truths, 0}: 1, {arrow, 2}: 1}
	for kids := 2; kids <= api.MaxTuple; kids++ {
		shapes[shape{comma, kids}] = 1
	}
	names := map[string]int{integers: 1, truths: 1, arrow: 1, comma: 1}
	for _, d := range l {
		if isNew(names, d.Name) {
			shapes[shape{d.Name, len(d.Vars)}] = 1
		}
	}
	return shapes
}

// isNew tells whether a name is not among the names, and puts it there.
func isNew(names map[string]int, name string) bool {
	names[name]++
	return names[name] == 1
}

// mayBegin tells whether d may be, but for its Cons.
func (c checker) mayBegin(d api.Data) bool {
	return isNew(c.datas, d.Name) && allNew(d.Vars)
}

// allNew tells whether no two names are one.
func allNew(l []string) bool {
	names := map[string]int{}
	for _, name := range l {
		if !isNew(names, name) {
			return false
		}
	}
	return true
}

// mayCon tells whether con may stand in a Data that has so many variables.
func (c checker) mayCon(con api.Con, vars int) bool {
	return isNew(c.cons, con.Name) && c.mayTypes(con.Args, vars)
}

func (c checker) mayTypes(l []api.Type, vars int) bool {
	for _, t := range l {
		if !c.mayNode(t, vars) || !c.mayTypes(t.Kids, vars) {
			return false
		}
	}
	return true
}

// mayNode tells whether t may be, but for what its kids are.
func (c checker) mayNode(t api.Type, vars int) bool {
	switch t.Kind {
	case api.YVar:
		return isPlace(t.N, vars)
	case api.YCon:
		return c.shapes[shape{t.Name, len(t.Kids)}] != 0
	}
	return false
}
