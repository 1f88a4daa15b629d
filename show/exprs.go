package show

import (
	"slices"
	"strconv"

	"doorkeeper/api"
)

// Ranks of nodes: the lower, the later.
const (
	rankIf = iota
	rankOr
	rankAnd
	rankCmp
	rankSum
	rankTerm
	rankUn
	rankPost // all else
)

// piece of an expression: a text, or, where that is empty, the node at that place.
type piece struct {
	text string
	node int
}

// exprPrinter prints expressions. What is still to be printed stands in a list, not in calls within calls: a chain of
// operators is nested as deep as it is long, and may be longer than calls may go.
type exprPrinter struct {
	writer
	nodes []api.Node
	rest  []piece // the next one is the last
}

// expr prints the expression of those nodes.
func (p *exprPrinter) expr(l []api.Node) {
	p.nodes = l
	p.kid(len(l) - 1)
	for len(p.rest) > 0 {
		last := len(p.rest) - 1
		next := p.rest[last]
		p.rest = p.rest[:last]
		if next.text != "" {
			p.put(next.text)
			continue
		}
		p.node(l[next.node])
		slices.Reverse(p.rest[last:])
	}
}

// node prints a node that has no kids, and lays down what stands in any other, in the order of reading.
func (p *exprPrinter) node(n api.Node) {
	switch n.Kind {
	case api.NNum:
		p.put(strconv.Itoa(n.Num))
	case api.NStr:
		p.quote(n.Parts)
	case api.NBool:
		p.put(strconv.FormatBool(n.Num == 1))
	case api.NRef:
		p.put(n.Text)
	case api.NCall:
		p.list(n.Text+"(", n.Kids, ")")
	case api.NList:
		p.list("[", n.Kids, "]")
	case api.NIndex:
		p.operand(n.Kids[0], rankPost)
		p.text("[")
		p.kid(n.Kids[1])
		p.text("]")
	case api.NNot, api.NNeg:
		p.text(sign(n.Kind))
		p.operand(n.Kids[0], rankUn)
	case api.NIf:
		p.operand(n.Kids[0], rankOr)
		p.text(" ? ")
		p.kid(n.Kids[1])
		p.text(" : ")
		p.kid(n.Kids[2])
	default:
		p.binary(n)
	}
}

func (p *exprPrinter) binary(n api.Node) {
	own := rank(n.Kind)
	least := own
	if own == rankCmp {
		least++ // what was compared is not compared again
	}
	p.operand(n.Kids[0], least)
	p.text(" " + sign(n.Kind) + " ")
	p.operand(n.Kids[1], own+1)
}

// text lays down a text that is not empty.
func (p *exprPrinter) text(s string) {
	p.rest = append(p.rest, piece{text: s})
}

// kid lays down the node at that place.
func (p *exprPrinter) kid(at int) {
	p.rest = append(p.rest, piece{node: at})
}

// operand lays down the node at that place, in brackets if its rank is lower than least.
func (p *exprPrinter) operand(at, least int) {
	if rank(p.nodes[at].Kind) >= least {
		p.kid(at)
		return
	}
	p.text("(")
	p.kid(at)
	p.text(")")
}

// list lays down nodes with commas between.
func (p *exprPrinter) list(begin string, kids []int, end string) {
	p.text(begin)
	for i, at := range kids {
		if i > 0 {
			p.text(", ")
		}
		p.kid(at)
	}
	p.text(end)
}

func rank(kind int) int {
	switch kind {
	case api.NIf:
		return rankIf
	case api.NOr:
		return rankOr
	case api.NAnd:
		return rankAnd
	case api.NEq, api.NNe, api.NLt, api.NLe, api.NGt, api.NGe:
		return rankCmp
	case api.NAdd, api.NSub:
		return rankSum
	case api.NMul, api.NDiv, api.NMod:
		return rankTerm
	case api.NNot, api.NNeg:
		return rankUn
	}
	return rankPost
}

// sign tells the sign of an operator, of one or of two.
func sign(kind int) string {
	switch kind {
	case api.NNot:
		return "!"
	case api.NOr:
		return "||"
	case api.NAnd:
		return "&&"
	case api.NEq:
		return "=="
	case api.NNe:
		return "!="
	case api.NLt:
		return "<"
	case api.NLe:
		return "<="
	case api.NGt:
		return ">"
	case api.NGe:
		return ">="
	case api.NAdd:
		return "+"
	case api.NNeg, api.NSub:
		return "-"
	case api.NMul:
		return "*"
	case api.NDiv:
		return "/"
	}
	return "%" // NMod: a Tree has no other kinds
}
