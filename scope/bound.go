package scope

import "warp/api"

// Kinds of what is bound: a name may be one of each at once.
const (
	ofVariable = iota + 1 // an EVar may have it
	ofCon                 // an ECon may have it
	ofPattern             // an Alt with so many Names may have it
)

// bound is what a name may be bound as.
type bound struct {
	kind  int
	name  string
	names int
}

func variable(name string) bound           { return bound{kind: ofVariable, name: name} }
func con(name string) bound                { return bound{kind: ofCon, name: name} }
func pattern(name string, names int) bound { return bound{ofPattern, name, names} }

// scope tells how often each is bound: a name may be so once more within what binds it.
type scope map[bound]int

// declared tells the scope of the Cons that are declared.
func declared(l []api.Data) scope {
	s := scope{}
	for _, d := range l {
		for _, c := range d.Cons {
			s.enter(con(c.Name))
			s.enter(pattern(c.Name, len(c.Args)))
		}
	}
	return s
}

// enter binds b once more, and tells whether it was not bound.
func (s scope) enter(b bound) bool {
	s[b]++
	return s[b] == 1
}

// leave binds b once less.
func (s scope) leave(b bound) { s[b]-- }

func (s scope) has(b bound) bool { return s[b] > 0 }
