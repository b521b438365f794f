package show

import "escarpment/api"

const maxNum = 999999999 // api.MaxDigit digits

// tree is one that nodes of a list make, of which no parent has come yet.
type tree struct {
	kind
	root int // its place
	deep int // how many are open in it at most, as Print writes it
}

// isTree tells whether the nodes are one tree of that class, as layer 8 makes it, that may stand in d. It goes through the
// list and not down the tree, so that no list is too deep for it.
func (d depth) isTree(l []api.Node, is class) bool {
	var trees []tree
	for at, n := range l {
		k := kindOf(n)
		rest := len(trees) - k.kids
		if k.is == 0 || rest < 0 || !isNode(n, k, trees[rest:]) {
			return false
		}
		trees = append(trees[:rest], tree{k, at, openIn(k, trees[rest:])})
	}
	return len(trees) == 1 && trees[0].is == is && int(d)+trees[0].deep <= api.MaxNest
}

// isNode tells whether n may stand behind those kids.
func isNode(n api.Node, k kind, kids []tree) bool {
	places := [2]int{-1, -1}
	for i, kid := range kids {
		if kid.is != k.of {
			return false
		}
		places[i] = kid.root
	}
	return n.A == places[0] && n.B == places[1] && isOwn(n)
}

// isOwn looks at a node's own number and name.
func isOwn(n api.Node) bool {
	switch n.Kind {
	case api.NNum:
		return 0 <= n.Num && n.Num <= maxNum && n.Name == ""
	case api.NVar:
		return n.Num == 0 && isName(n.Name)
	}
	return n.Num == 0 && n.Name == ""
}

// openIn tells how many are open in what a node of that kind makes of those kids.
func openIn(k kind, kids []tree) int {
	deep := 0
	for _, kid := range kids {
		if kid.inBrackets() {
			kid.deep++
		}
		deep = max(deep, kid.deep)
	}
	if k.kids == 1 {
		// A sign, a not is itself open until its operand ends.
		deep++
	}
	return deep
}
