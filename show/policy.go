package show

import (
	"capstan/api"
	"capstan/num"
)

// lineEnd is the token that ends each line of a policy.
const lineEnd = ";\n"

func (w *writer) policy(p api.Policy) {
	w.add("policy ", p.Name, lineEnd)
	for _, item := range p.Items {
		w.item(item)
		w.add(lineEnd)
	}
}

func (w *writer) item(item api.Item) {
	switch item.Kind {
	case api.IMetric:
		w.add("metric ", item.Name)
		w.unit(" [", item.Unit)
	case api.IReplicas:
		w.replicas(item)
	case api.IUp:
		w.add("cooldown ", "up ", span(item.A))
	case api.IDown:
		w.add("cooldown ", "down ", span(item.A))
	case api.ILet:
		w.add("let ", item.Name, " = ")
		w.expression(item.Term)
	case api.IGuard:
		w.add("guard ")
		w.expression(item.Term)
		w.add(" then ")
		w.action(item.Then)
	case api.IDecide:
		w.add("decide ")
		w.action(item.Then)
	}
}

func (w *writer) replicas(item api.Item) {
	w.add("replicas ", num.Text(item.A), "..", num.Text(item.B))
	if item.C != 0 {
		w.add(" step ", num.Text(item.C))
	}
}

func (w *writer) action(t api.Term) {
	switch t.Kind {
	case api.KHold:
		w.add("hold")
	case api.KTo:
		w.add("to ")
		w.expression(t.Parts[0])
	case api.KBy:
		w.add("by ")
		w.expression(t.Parts[0])
	case api.KLadder:
		w.ladder(t.Parts)
	}
}

// ladder puts a ladder at the end: what is asked, the pairs of a bound and an action, the action of else.
func (w *writer) ladder(parts []api.Term) {
	last := len(parts) - 1
	w.add("ladder ")
	w.expression(parts[0])
	w.begin(" { ")
	for i := 1; i < last; i += 2 {
		w.expression(parts[i])
		w.add(": ")
		w.action(parts[i+1])
		w.add(", ")
	}
	w.add("else", ": ")
	w.action(parts[last])
	w.end(" }")
}
