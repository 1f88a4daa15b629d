package eval

import (
	"doorkeeper/api"
	"doorkeeper/fun"
	"doorkeeper/val"
)

// asker asks the nodes of a Tree in the order in which they stand: kids, from the left, ahead of their node. It leaps
// over what is not asked. There are no calls within calls: a chain of operators is nested as deep as it is long, and may
// be longer than calls may go.
type asker struct {
	scope
	nodes  []api.Node
	above  []int     // of each node but the last one: the place of the one whose kid it is
	values []api.Val // of kids whose node is still to be asked
}

func newAsker(s scope, l []api.Node) *asker {
	a := &asker{scope: s, nodes: l, above: make([]int, len(l))}
	for place, n := range l {
		for _, kid := range n.Kids {
			a.above[kid] = place
		}
	}
	return a
}

// answer tells the value of the last node.
func (a *asker) answer() (api.Val, api.Errno) {
	place, last := 0, len(a.nodes)-1
	for {
		n := a.nodes[place]
		v, e := a.made(n, a.take(needs(n))...)
		if e != api.OK || place == last {
			return v, e
		}
		a.values = append(a.values, v)
		if place, e = a.next(place); e != api.OK {
			return api.Val{}, e
		}
	}
}

// needs tells of how many values a node is made.
func needs(n api.Node) int {
	if chooses(n.Kind) {
		return 1 // that of the kid that was asked last
	}
	return len(n.Kids)
}

// chooses tells whether it hangs on kids of such a node which others are asked.
func chooses(kind int) bool {
	return kind == api.NOr || kind == api.NAnd || kind == api.NIf
}

// take takes the last values off.
func (a *asker) take(count int) []api.Val {
	rest := len(a.values) - count
	l := a.values[rest:]
	a.values = a.values[:rest]
	return l
}

// made tells the value of a node that is made of those.
func (a *asker) made(n api.Node, l ...api.Val) (api.Val, api.Errno) {
	switch n.Kind {
	case api.NNum:
		return api.Val{Kind: api.VInt, N: n.Num}, api.OK
	case api.NStr:
		return a.text(n.Parts...)
	case api.NBool:
		return api.Val{Kind: api.VBool, N: n.Num}, api.OK
	case api.NRef:
		return a.reference(n.Text)
	case api.NCall:
		return fun.Call(n.Text, l...)
	case api.NList:
		return val.List(l...)
	case api.NIndex:
		return val.Index(l[0], l[1])
	case api.NNot, api.NNeg:
		return val.One(n.Kind, l[0])
	case api.NIf, api.NOr, api.NAnd:
		return l[0], api.OK
	}
	return val.Two(n.Kind, l[0], l[1])
}

// next tells which place is asked behind that one, whose value is the last.
func (a *asker) next(place int) (int, api.Errno) {
	above := a.above[place]
	n := a.nodes[above]
	switch first := place == n.Kids[0]; {
	case !chooses(n.Kind):
		return place + 1, api.OK
	case n.Kind != api.NIf:
		return a.nextOfTwo(place, above, first)
	case first:
		return a.choice(n)
	}
	return above, api.OK // the other choice is not asked
}

// nextOfTwo tells it where the node above is NOr or NAnd.
func (a *asker) nextOfTwo(place, above int, first bool) (int, api.Errno) {
	is, e := a.truth()
	switch {
	case e != api.OK:
		return 0, e
	case first && is == (a.nodes[above].Kind == api.NAnd):
		a.take(1) // it hangs on the other one
		return place + 1, api.OK
	}
	return above, api.OK
}

// choice tells where the one begins that is chosen of a NIf.
func (a *asker) choice(n api.Node) (int, api.Errno) {
	is, e := a.truth()
	if e != api.OK {
		return 0, e
	}
	a.take(1)
	if is {
		return n.Kids[0] + 1, api.OK
	}
	return n.Kids[1] + 1, api.OK
}

// truth tells what the last value says.
func (a *asker) truth() (bool, api.Errno) {
	v := a.values[len(a.values)-1]
	if v.Kind != api.VBool {
		return false, api.ErrType
	}
	return v.N == 1, api.OK
}
