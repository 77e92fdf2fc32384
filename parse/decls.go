package parse

import "warp/api"

// program reads all that there is.
func (r *reader) program() api.Program {
	var p api.Program
	for len(r.toks) > 0 {
		if r.sees(word("data")) {
			p.Datas = append(p.Datas, r.data())
			continue
		}
		r.take(word("let"))
		p.Binds = append(p.Binds, r.bind())
		r.take(sign(";"))
	}
	return p
}

// data reads a declaration of data.
func (r *reader) data() api.Data {
	r.take(word("data"))
	name := r.take(some(api.TCon))
	vars := r.names()
	r.vars = places(vars)
	r.take(sign("="))
	cons := row(r, "|", many, r.con)
	r.take(sign(";"))
	return api.Data{Name: name.S, At: name.At, Vars: vars, Cons: cons}
}

// places tells of each name its first place.
func places(names []string) map[string]int {
	m := map[string]int{}
	for i, name := range names {
		if _, is := m[name]; !is {
			m[name] = i
		}
	}
	return m
}

// con reads a form of data.
func (r *reader) con() api.Con {
	name := r.take(some(api.TCon))
	return api.Con{Name: name.S, At: name.At, Args: r.atomTypes()}
}

// atomTypes reads as many types as there are that need no brackets.
func (r *reader) atomTypes() []api.Type {
	var l []api.Type
	for r.sees(some(api.TName)) || r.sees(some(api.TCon)) || r.sees(sign("(")) {
		l = append(l, r.atomType())
	}
	return l
}

// typ reads a type.
func (r *reader) typ() api.Type {
	left := r.leftType()
	if !r.skip(sign(arrow)) {
		return left
	}
	return api.Type{Kind: api.YCon, Name: arrow, Kids: []api.Type{left, r.typ()}}
}

// leftType reads a type that may stand to the left of an arrow.
func (r *reader) leftType() api.Type {
	if !r.sees(some(api.TCon)) {
		return r.atomType()
	}
	name := r.take(some(api.TCon)).S
	return api.Type{Kind: api.YCon, Name: name, Kids: r.atomTypes()}
}

// atomType reads a type that needs no brackets.
func (r *reader) atomType() api.Type {
	switch {
	case r.sees(some(api.TName)):
		return r.variable()
	case r.sees(some(api.TCon)):
		return api.Type{Kind: api.YCon, Name: r.take(some(api.TCon)).S}
	case r.sees(sign("(")):
		return r.tupleType()
	}
	r.stop()
	return api.Type{}
}

// tupleType reads a bracket: those around one part are gone behind that.
func (r *reader) tupleType() api.Type {
	parts, _ := bracket(r, r.typ)
	if len(parts) == 1 {
		return parts[0]
	}
	return api.Type{Kind: api.YCon, Name: comma, Kids: parts}
}

// variable reads a variable of the data.
func (r *reader) variable() api.Type {
	name := r.take(some(api.TName)).S
	if i, is := r.vars[name]; is {
		return api.Type{Kind: api.YVar, N: i}
	}
	return api.Type{Kind: api.YVar, N: -1, Name: name}
}

// bind reads a name, the names behind it, and what they are bound to.
func (r *reader) bind() api.Bind {
	name := r.take(some(api.TName))
	names := r.names()
	r.take(sign("="))
	return api.Bind{Name: name.S, At: name.At, Body: lams(name.At, names, r.expr())}
}
