package tests

import (
	"slices"

	"loop.example/entail/impl"
)

// rooted is a memory by hand, and roots by the numbers of the things to which they lead, 0 being nothing.
type rooted struct {
	memHand
	roots []int
}

func (r rooted) heap() heap {
	return heap{r.objs, refs(r.roots...)}
}

func (r rooted) rootPlaces() []int {
	var all []int
	for _, v := range refs(r.roots...) {
		all = append(all, r.valueIn(v))
	}
	return all
}

// live is which of the things are, by a path to each.
func (r rooted) live() []int {
	var all []int
	for i, p := range leastPaths(r.heap()) {
		if p != nil {
			all = append(all, i)
		}
	}
	return all
}

func (r rooted) livePlaces() []int {
	var all []int
	for _, i := range r.live() {
		all = append(all, r.placeOf(i))
	}
	return all
}

func (r rooted) liveWords() int {
	words := 0
	for _, i := range r.live() {
		words += sizeOf(r.objs[i])
	}
	return words
}

// allOld has those things alone, in that order, in the old part; false, if there is no room for them.
func (r rooted) allOld(order []int) (rooted, bool) {
	h := inOrder(r.heap(), order)
	next := rooted{memHand: emptyMem(r.cs, r.young, r.old)}
	next.objs = h.objs
	for _, v := range h.roots {
		next.roots = append(next.roots, v.N)
	}
	return next, sizesOf(h.objs) <= r.old
}

func (r rooted) isOld(i int) bool {
	return i >= r.inYoung
}

// nextYoung is the first young thing that is not in the order, to which roots lead, or what is in those that are; -1, if there is none.
func (r rooted) nextYoung(order []int) int {
	all := refs(r.roots...)
	for _, i := range order {
		all = append(all, r.objs[i].Vals...)
	}
	for _, v := range all {
		if v.Ref && v.N > 0 && !r.isOld(v.N-1) && !slices.Contains(order, v.N-1) {
			return v.N - 1
		}
	}
	return -1
}

// minorOrder looks from the first root on for each thing again: none waits for another one.
func (r rooted) minorOrder() []int {
	var order []int
	for i := range r.objs {
		if r.isOld(i) {
			order = append(order, i)
		}
	}
	for {
		next := r.nextYoung(order)
		if next < 0 {
			return order
		}
		order = append(order, next)
	}
}

func (r rooted) majorOrder() []int {
	var old, young []int
	for _, i := range r.live() {
		if r.isOld(i) {
			old = append(old, i)
		} else {
			young = append(young, i)
		}
	}
	return append(old, young...)
}

func (r rooted) minor() (rooted, bool) {
	return r.allOld(r.minorOrder())
}

func (r rooted) major() (rooted, bool) {
	return r.allOld(r.majorOrder())
}

// withMade has a thing more behind all others of a part, all roots leading where they did, and where it is.
func (r rooted) withMade(o impl.Obj, old bool) (rooted, int) {
	next := rooted{memHand: r.withObj(o, old), roots: slices.Clone(r.roots)}
	if old {
		return next, next.placeOf(len(next.objs) - 1)
	}
	for i, n := range next.roots {
		if n > r.inYoung {
			next.roots[i]++
		}
	}
	return next, next.placeOf(next.inYoung - 1)
}

// make is the memory, and where the thing is; 0, if there is no room, behind all that could be moved.
func (r rooted) make(o impl.Obj) (rooted, int) {
	old := sizeOf(o) > r.young
	if sizeOf(o) <= r.free(old) {
		return r.withMade(o, old)
	}
	if next, ok := r.minor(); ok {
		r = next
	}
	if sizeOf(o) <= r.free(old) {
		return r.withMade(o, old)
	}
	if next, ok := r.major(); ok {
		r = next
	}
	if sizeOf(o) <= r.free(old) {
		return r.withMade(o, old)
	}
	return r, 0
}

// knownRooted is a memory of knownClasses, of young things, then old ones, by whose order all lead, with just the cards set that must be.
func knownRooted(young int, old int, youngs []impl.Obj, olds []impl.Obj, roots ...int) rooted {
	h := emptyMem(knownClasses(), young, old)
	h.objs, h.inYoung = slices.Concat(youngs, olds), len(youngs)
	return rooted{h.withNeeded(), roots}
}

// refsArray is an array of what leads to those things.
func refsArray(numbers ...int) impl.Obj {
	return thing(impl.ClassRefs, refs(numbers...)...)
}

// mark is a thing of two words that is told apart from others by its word, and leads nowhere.
func mark(n int) impl.Obj {
	return thing(impl.ClassFail, word(n))
}

// marks are things that are told apart, of two words each.
func marks(count int) []impl.Obj {
	var all []impl.Obj
	for i := range count {
		all = append(all, mark(i+1))
	}
	return all
}

// someRoots are none, few, or about as many as there are things, some of them nothing, some the same.
func (d *dice) someRoots(h memHand) []int {
	var roots []int
	for range pick(d, []int{0, 1, 2, 4, len(h.objs), 2 * len(h.objs)}) {
		roots = append(roots, d.roll(len(h.objs)+1))
	}
	return roots
}

// someRooted are the same in each run.
func someRooted(seed int, count int) []rooted {
	d := &dice{state: uint64(seed)*104729 + 3}
	var all []rooted
	for _, h := range someMems(seed, count) {
		all = append(all, rooted{h, d.someRoots(h)})
	}
	return all
}

// eachSmallRooted visits all memories of three arrays of one, two and one, in both parts in all ways, that lead to each other in all ways, with all lists of up to so many roots.
func eachSmallRooted(young int, old int, roots int, visit func(r rooted)) {
	values := refs(0, 1, 2, 3)
	var lists [][]int
	for _, list := range everyVals(values, roots) {
		var numbers []int
		for _, v := range list {
			numbers = append(numbers, v.N)
		}
		lists = append(lists, numbers)
	}
	for _, inside := range everyVals(values, 4) {
		if len(inside) < 4 {
			continue
		}
		for inYoung := range 4 {
			h := emptyMem(knownClasses(), young, old)
			h.objs = things(thing(impl.ClassRefs, inside[0]), thing(impl.ClassRefs, inside[1:3]...), thing(impl.ClassRefs, inside[3]))
			h.inYoung = inYoung
			h = h.withNeeded()
			for _, list := range lists {
				visit(rooted{h, list})
			}
		}
	}
}
