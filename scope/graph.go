package scope

import "slices"

// graph tells of each place where it leads.
type graph [][]int

// firstInRing tells the first place that leads, at once or through others, back to itself; -1: there is none. Places that
// lead to each other are come to together by whoever goes against the arrows from the place on that was left last
// (Kosaraju's way), so that all is gone through no more than twice, however long a ring is.
func (g graph) firstInRing() int {
	first := len(g)
	back := g.turned()
	been := make([]bool, len(g))
	for _, from := range slices.Backward(g.left()) {
		least, count := len(g), 0
		back.visit(from, been, func(at int) {
			least = min(least, at)
			count++
		})
		if count > 1 || count == 1 && slices.Contains(g[from], from) {
			first = min(first, least)
		}
	}
	if first == len(g) {
		return -1
	}
	return first
}

// left tells all places, each as soon as all is gone through to which it leads.
func (g graph) left() []int {
	var l []int
	been := make([]bool, len(g))
	for at := range g {
		g.visit(at, been, func(at int) { l = append(l, at) })
	}
	return l
}

// turned tells the graph of the same arrows, each from its end to its beginning.
func (g graph) turned() graph {
	back := make(graph, len(g))
	for from, l := range g {
		for _, to := range l {
			back[to] = append(back[to], from)
		}
	}
	return back
}

// step is a place on the way, and which of its arrows is next.
type step struct {
	at   int
	next int
}

// visit goes to a place, and on to all to which it leads, but for where one has been, and leaves each behind those to which
// it led. The way is a list, as it may be too long for calls within calls.
func (g graph) visit(from int, been []bool, leave func(int)) {
	if been[from] {
		return
	}
	been[from] = true
	way := []step{{at: from}}
	for len(way) > 0 {
		here := &way[len(way)-1]
		if here.next == len(g[here.at]) {
			way = way[:len(way)-1]
			leave(here.at)
			continue
		}
		to := g[here.at][here.next]
		here.next++
		if !been[to] {
			been[to] = true
			way = append(way, step{at: to})
		}
	}
}
