package expand

import "doorkeeper/api"

// names are what is known by name.
type names map[string]api.Val

func namesOf(l ...api.Bind) names {
	n := names{}
	for _, b := range l {
		if !n.have(b.Name) {
			n[b.Name] = b.Val
		}
	}
	return n
}

func (n names) have(name string) bool {
	_, have := n[name]
	return have
}

// asked tells the binds that an expression asks for.
func (n names) asked(l []api.Node) []api.Bind {
	var binds []api.Bind
	ask := func(name string) {
		if v, have := n[name]; have {
			binds = append(binds, api.Bind{Name: name, Val: v})
		}
	}
	for _, node := range l {
		if node.Kind == api.NRef {
			ask(node.Text)
		}
		for _, p := range node.Parts {
			if p.Ref {
				ask(p.Text)
			}
		}
	}
	return binds
}
