package parse

import "warp/api"

const (
	arrow = "->"
	comma = ","

	many = api.MaxSrc // no text has room for more than that of anything
)

// sort is what the grammar asks of a token: a kind, and the text of a word, of a sign.
type sort struct {
	kind int
	text string
}

func word(text string) sort { return sort{api.TWord, text} }
func sign(text string) sort { return sort{api.TSign, text} }
func some(kind int) sort    { return sort{kind: kind} }

// sortOf tells what sort t is of.
func sortOf(t api.Tok) sort {
	if t.Kind == api.TWord || t.Kind == api.TSign {
		return sort{t.Kind, t.S}
	}
	return some(t.Kind)
}

// reader reads the tokens of a text, from the front.
type reader struct {
	toks    []api.Tok      // those that it has not read: none, once it has stopped
	end     int            // how many bytes the text has
	begins  map[sort]int   // see begins
	vars    map[string]int // of each variable of the data that is read its first place in Vars
	stopped bool           // something is wrong
	at      int            // where
}

// next tells the sort of the next token: no sort of a token, if there is none.
func (r *reader) next() sort {
	if len(r.toks) == 0 {
		return sort{}
	}
	return sortOf(r.toks[0])
}

// sees tells whether the next token is of that sort.
func (r *reader) sees(s sort) bool { return r.next() == s }

// take reads the next token, which must be of that sort.
func (r *reader) take(s sort) api.Tok {
	if !r.sees(s) {
		r.stop()
		return api.Tok{}
	}
	t := r.toks[0]
	r.toks = r.toks[1:]
	return t
}

// skip reads the next token if it is of that sort, and tells whether it is.
func (r *reader) skip(s sort) bool {
	if !r.sees(s) {
		return false
	}
	r.take(s)
	return true
}

// stop tells that nothing can go on with the next token. From then on there is none: what is read ends soon, as nothing
// is read within itself but behind a token, and is thrown away; another stop does not count.
func (r *reader) stop() {
	if r.stopped {
		return
	}
	r.stopped, r.at = true, r.end
	if len(r.toks) > 0 {
		r.at = r.toks[0].At
	}
	r.toks = nil
}

// names reads as many names as there are.
func (r *reader) names() []string {
	var l []string
	for r.sees(some(api.TName)) {
		l = append(l, r.take(some(api.TName)).S)
	}
	return l
}

// row reads one or more of what one reads, with that sign between, but no more than most.
func row[T any](r *reader, between string, most int, one func() T) []T {
	l := []T{one()}
	for len(l) < most && r.skip(sign(between)) {
		l = append(l, one())
	}
	return l
}

// bracket reads the parts in a bracket, and tells where it begins, too. A `,` ahead of one more than may be stands
// where the bracket must end.
func bracket[T any](r *reader, part func() T) (l []T, at int) {
	at = r.take(sign("(")).At
	l = row(r, comma, api.MaxTuple, part)
	r.take(sign(")"))
	return l, at
}
