package tests

import (
	"slices"

	"loop.example/entail/impl"
)

// heap is what the functions of things are given, and what HeapGraph gives back.
type heap struct {
	objs  []impl.Obj
	roots []impl.Val
}

func word(n int) impl.Val {
	return impl.Val{N: n}
}

func ref(n int) impl.Val {
	return impl.Val{Ref: true, N: n}
}

func refs(numbers ...int) []impl.Val {
	var all []impl.Val
	for _, n := range numbers {
		all = append(all, ref(n))
	}
	return all
}

func thing(class int, vals ...impl.Val) impl.Obj {
	return impl.Obj{Class: class, Vals: vals}
}

func things(objs ...impl.Obj) []impl.Obj {
	return objs
}

func graphOf(h heap) heap {
	objs, roots := impl.HeapGraph(h.objs, h.roots)
	return heap{objs, roots}
}

func equalThings(a impl.Obj, b impl.Obj) bool {
	return a.Class == b.Class && slices.Equal(a.Vals, b.Vals)
}

func equalHeaps(a heap, b heap) bool {
	return slices.EqualFunc(a.objs, b.objs, equalThings) && slices.Equal(a.roots, b.roots)
}

func isNoHeap(h heap) bool {
	return len(h.objs) == 0 && len(h.roots) == 0
}

func copyHeap(h heap) heap {
	out := heap{roots: slices.Clone(h.roots)}
	for _, o := range h.objs {
		out.objs = append(out.objs, impl.Obj{Class: o.Class, Vals: slices.Clone(o.Vals)})
	}
	return out
}

// valuesOf are where all values stand, also those of things to which nothing leads.
func valuesOf(h heap) []*impl.Val {
	var all []*impl.Val
	for i := range h.roots {
		all = append(all, &h.roots[i])
	}
	for _, o := range h.objs {
		for i := range o.Vals {
			all = append(all, &o.Vals[i])
		}
	}
	return all
}

// okByHand asks each value for its thing, one by one.
func okByHand(h heap) bool {
	for _, v := range valuesOf(h) {
		found := !v.Ref || v.N == 0
		for i := range h.objs {
			found = found || v.N == i+1
		}
		if !found {
			return false
		}
	}
	return true
}

// path is the place of a root, and of what is in things, from one to the next.
type path []int

// comparePaths has the shorter one first: so one comes to things, all roots first, then by what is in these, and so on.
func comparePaths(a path, b path) int {
	if len(a) != len(b) {
		return len(a) - len(b)
	}
	return slices.Compare(a, b)
}

// leastPaths are the first of all paths to each thing, nil where none leads; a path that is found is held against the best so far, till nothing changes, so that no thing waits for another one.
func leastPaths(h heap) []path {
	best := make([]path, len(h.objs))
	changed := true
	try := func(ahead path, vals []impl.Val) {
		for i, v := range vals {
			if !v.Ref || v.N == 0 {
				continue
			}
			longer := append(slices.Clone(ahead), i)
			if was := best[v.N-1]; was == nil || comparePaths(longer, was) < 0 {
				best[v.N-1], changed = longer, true
			}
		}
	}
	for changed {
		changed = false
		try(nil, h.roots)
		for i, o := range h.objs {
			if best[i] != nil {
				try(best[i], o.Vals)
			}
		}
	}
	return best
}

// graphByHand sorts the things by their least paths.
func graphByHand(h heap) heap {
	if !okByHand(h) {
		return heap{}
	}
	best := leastPaths(h)
	var order []int
	for i := range h.objs {
		if best[i] != nil {
			order = append(order, i)
		}
	}
	slices.SortFunc(order, func(a int, b int) int { return comparePaths(best[a], best[b]) })
	graph := heap{roots: h.roots}
	for _, i := range order {
		graph.objs = append(graph.objs, h.objs[i])
	}
	graph = copyHeap(graph)
	for _, v := range valuesOf(graph) {
		if v.Ref && v.N != 0 {
			v.N = slices.Index(order, v.N-1) + 1
		}
	}
	return graph
}

// inOrder is the same heap with its things in another order: the i-th one is then where order has i.
func inOrder(h heap, order []int) heap {
	out := heap{roots: h.roots}
	for _, i := range order {
		out.objs = append(out.objs, h.objs[i])
	}
	out = copyHeap(out)
	for _, v := range valuesOf(out) {
		if v.Ref && v.N > 0 {
			v.N = slices.Index(order, v.N-1) + 1
		}
	}
	return out
}

func everyOrder(count int) [][]int {
	if count == 0 {
		return [][]int{nil}
	}
	var all [][]int
	for _, shorter := range everyOrder(count - 1) {
		for at := range count {
			all = append(all, slices.Insert(slices.Clone(shorter), at, count-1))
		}
	}
	return all
}

// withThing is the heap with a thing more at that place, all others leading where they did; the thing leads by the new numbers.
func withThing(h heap, at int, more impl.Obj) heap {
	out := copyHeap(h)
	for _, v := range valuesOf(out) {
		if v.Ref && v.N > at {
			v.N++
		}
	}
	out.objs = slices.Insert(out.objs, at, impl.Obj{Class: more.Class, Vals: slices.Clone(more.Vals)})
	return out
}

// everyVals are all lists of at most so many values.
func everyVals(values []impl.Val, size int) [][]impl.Val {
	all := [][]impl.Val{nil}
	last := all
	for range size {
		var longer [][]impl.Val
		for _, list := range last {
			for _, v := range values {
				longer = append(longer, append(slices.Clone(list), v))
			}
		}
		all, last = append(all, longer...), longer
	}
	return all
}

// eachHeap visits all heaps of so many things, with at most inside values in each, and at most as many roots as are told; classes are all different, so that things are told apart.
func eachHeap(count int, values []impl.Val, inside int, roots int, visit func(h heap)) {
	lists := everyVals(values, inside)
	h := heap{objs: make([]impl.Obj, count)}
	var fill func(i int)
	fill = func(i int) {
		if i == count {
			for _, h.roots = range everyVals(values, roots) {
				visit(h)
			}
			return
		}
		for _, list := range lists {
			h.objs[i] = thing(10+i, list...)
			fill(i + 1)
		}
	}
	fill(0)
}

// eachSmallHeap visits heaps of up to three things, among them words with the numbers of things.
func eachSmallHeap(visit func(h heap)) {
	eachHeap(0, []impl.Val{word(1), ref(0)}, 0, 3, visit)
	eachHeap(1, []impl.Val{word(1), ref(0), ref(1)}, 3, 3, visit)
	eachHeap(2, []impl.Val{word(1), ref(0), ref(1), ref(2)}, 2, 3, visit)
	eachHeap(3, []impl.Val{word(2), ref(1), ref(2), ref(3)}, 2, 2, visit)
}

func (d *dice) someVal(count int) impl.Val {
	if d.roll(3) == 0 {
		return word(d.roll(count+3) - 1)
	}
	return ref(d.roll(count + 1))
}

// someHeap has few things that are led to, or many: by how much is in each.
func (d *dice) someHeap() heap {
	var h heap
	count, inside := d.roll(15), 1+d.roll(4)
	for range count {
		o := thing(d.roll(6) - 2)
		for range d.roll(inside + 1) {
			o.Vals = append(o.Vals, d.someVal(count))
		}
		h.objs = append(h.objs, o)
	}
	for range d.roll(5) {
		h.roots = append(h.roots, d.someVal(count))
	}
	return h
}

// someHeaps are the same in each run.
func someHeaps(seed int, count int) []heap {
	d := &dice{state: uint64(seed)*7919 + 1}
	var all []heap
	for range count {
		all = append(all, d.someHeap())
	}
	return all
}

func (d *dice) someOrder(count int) []int {
	var order []int
	for i := range count {
		order = slices.Insert(order, d.roll(i+1), i)
	}
	return order
}
