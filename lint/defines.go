package lint

import "doorkeeper/api"

// defines tells those that no module uses; none, if it is not known what some module uses.
func defines(l []api.Block) []api.Warn {
	var labels []string
	for _, use := range uses(l) {
		s, known := label(use)
		if !known {
			return nil
		}
		labels = append(labels, s)
	}
	said := namesOf(labels)
	var warns []api.Warn
	for _, b := range l {
		if b.Kind == api.BDefine && !said.used(b.Label) {
			warns = append(warns, api.Warn{Kind: api.WDefine, Name: b.Label})
		}
	}
	return warns
}

// uses tells what modules say that they use, those within defines too.
func uses(l []api.Block) [][]api.Node {
	var all [][]api.Node
	for _, b := range l {
		if b.Kind == api.BModule {
			all = append(all, use(b)...)
		}
		all = append(all, uses(b.Blocks)...)
	}
	return all
}

// use tells what a module says, if it does.
func use(b api.Block) [][]api.Node {
	for _, a := range b.Attrs {
		if a.Name == "use" {
			return [][]api.Node{a.Expr}
		}
	}
	return nil
}

// label tells what a text says that is the same whatever names stand for.
func label(l []api.Node) (string, bool) {
	if len(l) != 1 || len(l[0].Parts) != 1 || l[0].Parts[0].Ref {
		return "", false
	}
	return l[0].Parts[0].Text, true
}
