package parse

import "capstan/api"

func (r *reader) policy() api.Policy {
	r.must("policy")
	p := api.Policy{Name: r.take(api.Name).Text}
	r.must(";")
	for {
		item := r.item()
		r.must(";")
		p.Items = append(p.Items, item)
		if item.Kind == api.IDecide {
			return p
		}
	}
}

// item reads an item, or what is decided behind all of them, up to its semicolon.
func (r *reader) item() api.Item {
	switch {
	case r.is("metric"):
		return r.metric()
	case r.is("replicas"):
		return r.replicas()
	case r.is("cooldown"):
		return r.cooldown()
	case r.is("let"):
		return r.let()
	case r.is("guard"):
		return r.guard()
	case r.is("decide"):
		return api.Item{Kind: api.IDecide, At: r.must("decide"), Then: r.action()}
	}
	panic(r.unfit())
}

func (r *reader) metric() api.Item {
	item := api.Item{Kind: api.IMetric, At: r.must("metric")}
	item.Name = r.take(api.Name).Text
	item.Unit = r.unit()
	return item
}

func (r *reader) replicas() api.Item {
	item := api.Item{Kind: api.IReplicas, At: r.must("replicas")}
	item.A = r.take(api.Number).N
	r.must("..")
	item.B = r.take(api.Number).N
	if r.may("step") {
		item.C = r.take(api.Number).N
	}
	return item
}

func (r *reader) cooldown() api.Item {
	item := api.Item{Kind: api.IUp, At: r.must("cooldown")}
	if !r.may("up") {
		r.must("down")
		item.Kind = api.IDown
	}
	item.A = r.take(api.Duration).N
	return item
}

func (r *reader) let() api.Item {
	item := api.Item{Kind: api.ILet, At: r.must("let")}
	item.Name = r.take(api.Name).Text
	r.must("=")
	item.Term = r.expression()
	return item
}

func (r *reader) guard() api.Item {
	item := api.Item{Kind: api.IGuard, At: r.must("guard")}
	item.Term = r.expression()
	r.must("then")
	item.Then = r.action()
	return item
}

func (r *reader) action() api.Term {
	switch {
	case r.is("hold"):
		return term(api.KHold, r.must("hold"))
	case r.is("to"):
		return term(api.KTo, r.must("to"), r.expression())
	case r.is("by"):
		return term(api.KBy, r.must("by"), r.expression())
	case r.is("ladder"):
		return r.ladder()
	}
	panic(r.unfit())
}

func (r *reader) ladder() api.Term {
	ladder := term(api.KLadder, r.must("ladder"), r.expression())
	r.begin("{")
	for !r.may("else") {
		bound := r.bound()
		r.must(":")
		ladder.Parts = append(ladder.Parts, bound, r.action())
		r.must(",")
	}
	r.must(":")
	ladder.Parts = append(ladder.Parts, r.action())
	r.close("}")
	return ladder
}

func (r *reader) bound() api.Term {
	if r.is("-") {
		return term(api.KNeg, r.must("-"), r.number())
	}
	return r.number()
}
