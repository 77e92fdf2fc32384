package term

import (
	"strconv"
	"strings"

	"warp/api"
)

const letters = 'z' - 'a' + 1

// writer writes types that may be as text.
type writer struct{ strings.Builder }

func (w *writer) typ(t api.Type) {
	switch {
	case t.Kind == api.YVar:
		w.variable(t.N)
	case t.Name == arrow:
		w.function(t.Kids[0], t.Kids[1])
	case t.Name == comma:
		w.tuple(t.Kids)
	default:
		w.named(t.Name, t.Kids)
	}
}

// variable writes a letter, and behind those of the first 26 variables which time it is there.
func (w *writer) variable(n int) {
	w.WriteByte(byte('a' + n%letters))
	if n >= letters {
		w.WriteString(strconv.Itoa(n / letters))
	}
}

func (w *writer) function(from, to api.Type) {
	w.held(from, from.Name == arrow)
	w.WriteString(" -> ")
	w.typ(to)
}

func (w *writer) tuple(kids []api.Type) {
	ahead := "("
	for _, kid := range kids {
		w.WriteString(ahead)
		w.typ(kid)
		ahead = ", "
	}
	w.WriteString(")")
}

func (w *writer) named(name string, kids []api.Type) {
	w.WriteString(name)
	for _, kid := range kids {
		w.WriteString(" ")
		w.held(kid, len(kid.Kids) > 0 && kid.Name != comma)
	}
}

// held writes t, in brackets if it is so.
func (w *writer) held(t api.Type, inBrackets bool) {
	if !inBrackets {
		w.typ(t)
		return
	}
	w.WriteString("(")
	w.typ(t)
	w.WriteString(")")
}
