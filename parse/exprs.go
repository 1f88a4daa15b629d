package parse

import "doorkeeper/api"

// Ranks of the operators of two: the lower, the later.
const (
	rankOr = iota + 1
	rankAnd
	rankCmp
	rankSum
	rankTerm
	rankUn // none of two any more
)

// exprReader makes nodes of tokens. Its methods that read tell the place of what they read.
type exprReader struct {
	tokenReader
	nodes []api.Node
	depth int
}

// tree tells the nodes of an expression.
func (r *exprReader) tree() []api.Node {
	r.nodes = nil
	r.expr()
	return r.nodes
}

func (r *exprReader) add(n api.Node) int {
	r.nodes = append(r.nodes, n)
	return len(r.nodes) - 1
}

// open goes over that sign, if it stands here, and one deeper: its reader comes up again by itself, or by close.
func (r *exprReader) open(sign string) bool {
	if !r.take(sign) {
		return false
	}
	r.depth++
	if r.depth > api.MaxNest {
		r.fail(api.ErrDeep)
	}
	return true
}

func (r *exprReader) close(sign string) {
	r.need(sign)
	r.depth--
}

func (r *exprReader) expr() int {
	test := r.binary(rankOr)
	if !r.open("?") {
		return test
	}
	yes := r.expr()
	r.need(":")
	no := r.expr()
	r.depth--
	return r.add(api.Node{Kind: api.NIf, Kids: []int{test, yes, no}})
}

// binary reads operands of a higher rank, with operators of this one between.
func (r *exprReader) binary(rank int) int {
	if rank == rankUn {
		return r.un()
	}
	left := r.binary(rank + 1)
	for {
		kind := operator(r.peek().Text, rank)
		if kind == 0 {
			return left
		}
		r.at++
		right := r.binary(rank + 1)
		left = r.add(api.Node{Kind: kind, Kids: []int{left, right}})
		if rank == rankCmp {
			return left // what was compared is not compared again
		}
	}
}

// operator tells the kind of the operator of that rank that has that sign, 0 of none.
func operator(sign string, rank int) int {
	kind, of := 0, 0
	switch sign {
	case "||":
		kind, of = api.NOr, rankOr
	case "&&":
		kind, of = api.NAnd, rankAnd
	case "==":
		kind, of = api.NEq, rankCmp
	case "!=":
		kind, of = api.NNe, rankCmp
	case "<":
		kind, of = api.NLt, rankCmp
	case "<=":
		kind, of = api.NLe, rankCmp
	case ">":
		kind, of = api.NGt, rankCmp
	case ">=":
		kind, of = api.NGe, rankCmp
	case "+":
		kind, of = api.NAdd, rankSum
	case "-":
		kind, of = api.NSub, rankSum
	case "*":
		kind, of = api.NMul, rankTerm
	case "/":
		kind, of = api.NDiv, rankTerm
	case "%":
		kind, of = api.NMod, rankTerm
	}
	if of != rank {
		return 0
	}
	return kind
}

func (r *exprReader) un() int {
	switch {
	case r.open("-"):
		return r.ahead(api.NNeg)
	case r.open("!"):
		return r.ahead(api.NNot)
	}
	return r.post()
}

// ahead reads what a sign stands ahead of.
func (r *exprReader) ahead(kind int) int {
	kid := r.un()
	r.depth--
	return r.add(api.Node{Kind: kind, Kids: []int{kid}})
}

func (r *exprReader) post() int {
	list := r.prim()
	for r.open("[") {
		index := r.expr()
		r.close("]")
		list = r.add(api.Node{Kind: api.NIndex, Kids: []int{list, index}})
	}
	return list
}

func (r *exprReader) prim() int {
	t := r.peek()
	switch {
	case t.Kind == api.TokNum:
		r.at++
		return r.add(api.Node{Kind: api.NNum, Num: t.Num})
	case t.Kind == api.TokStr:
		r.at++
		return r.add(api.Node{Kind: api.NStr, Parts: t.Parts})
	case t.Kind == api.TokName:
		r.at++
		return r.named(t.Text)
	case r.open("["):
		kids := r.list("]")
		return r.add(api.Node{Kind: api.NList, Kids: kids})
	case r.open("("):
		inner := r.expr()
		r.close(")")
		return inner
	}
	r.fail(api.ErrForm)
	return 0
}

// named reads what goes on behind a name.
func (r *exprReader) named(name string) int {
	switch {
	case name == "true":
		return r.add(api.Node{Kind: api.NBool, Num: 1})
	case name == "false":
		return r.add(api.Node{Kind: api.NBool})
	case r.open("("):
		kids := r.list(")")
		return r.add(api.Node{Kind: api.NCall, Text: name, Kids: kids})
	}
	r.need(".")
	return r.add(api.Node{Kind: api.NRef, Text: name + "." + r.needName()})
}

// list reads expressions with commas between, and the sign behind them.
func (r *exprReader) list(end string) []int {
	var kids []int
	if !r.sees(end) {
		kids = append(kids, r.expr())
		for r.take(",") {
			kids = append(kids, r.expr())
		}
	}
	r.close(end)
	return kids
}
