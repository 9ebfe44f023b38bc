package tests

import (
	"slices"

	"loop.example/entail/impl"
)

// deepClasses are one below the other, but for the root: 4 has as much in it as a class may.
func deepClasses() []impl.Class {
	return []impl.Class{
		{Super: -1},
		{Super: 0, Fields: []int{impl.TypeInt}},
		{Super: 1, Fields: []int{impl.TypeClass + 2, impl.TypeInt}},
		{Super: 2, Fields: []int{impl.TypeInts, impl.TypeRefs}},
		{Super: 3, Fields: []int{impl.TypeInt, impl.TypeClass}},
	}
}

func memTrees() [][]impl.Class {
	return append(someTrees(), deepClasses())
}

// madeThing is what MemMake is told of a thing.
type madeThing struct {
	class int
	n     int
}

// allMade are a thing of each class, and each array.
func allMade(cs []impl.Class) []madeThing {
	var all []madeThing
	for class := range cs {
		all = append(all, madeThing{class, 0})
	}
	for n := range impl.ArrayMax + 1 {
		all = append(all, madeThing{impl.ClassInts, n}, madeThing{impl.ClassRefs, n})
	}
	return all
}

// made is a thing that there is, with nothing in it.
func (h memHand) made(what madeThing) impl.Obj {
	o, _ := h.newObj(what.class, what.n)
	return o
}

// fillPart makes things in a part, of which at least left words stay free.
func (d *dice) fillPart(h memHand, old bool, left int) memHand {
	all := allMade(h.cs)
	for h.free(old) > left {
		// The root's thing is the only one of one word: with it each part can be filled.
		o := h.made(madeThing{impl.ClassRoot, 0})
		if d.roll(4) > 0 {
			o = h.made(pick(d, all))
		}
		if sizeOf(o) <= h.free(old)-left {
			h = h.withObj(o, old)
		}
	}
	return h
}

// putSome puts something into everything, often where it is itself, or in a circle.
func (d *dice) putSome(h memHand) memHand {
	h = h.copied()
	for _, v := range valuesOf(heap{objs: h.objs}) {
		if v.Ref {
			*v = ref(d.roll(len(h.objs) + 1))
		} else {
			*v = word(pick(d, []int{-128, -2, -1, 0, 1, 2, 127, d.roll(256) - 128}))
		}
	}
	return h
}

// someCards has just those set that must be, or some more, or all.
func (d *dice) someCards(h memHand) memHand {
	h = h.copied()
	often := d.roll(3)
	for c := range h.cards {
		h.cards[c] = often == 2 || often == 1 && d.roll(2) == 0
	}
	return h.withNeeded()
}

// leaving is how many of so many words are not in use: all, none, or something between.
func (d *dice) leaving(words int) int {
	switch d.roll(4) {
	case 0:
		return words
	case 1:
		return 0
	}
	return d.roll(words + 1)
}

func (d *dice) someMem(cs []impl.Class, young int, old int) memHand {
	h := emptyMem(cs, young, old)
	h = d.fillPart(h, false, d.leaving(young))
	h = d.fillPart(h, true, d.leaving(old))
	return d.someCards(d.putSome(h))
}

// someMems are the same in each run: small ones, and, seldom, larger ones.
func someMems(seed int, count int) []memHand {
	d := &dice{state: uint64(seed)*7919 + 1}
	var all []memHand
	for i := range count {
		cs := pick(d, memTrees())
		young, old := d.roll(12), impl.OldMin+d.roll(12)
		if i%5 == 0 {
			young, old = pick(d, []int{0, 1, d.roll(41), impl.YoungMax}), pick(d, []int{impl.OldMin, 14 + d.roll(107), impl.OldMax})
		}
		all = append(all, d.someMem(cs, young, old))
	}
	return all
}

// eachMade visits all memories that some makes give, with one thing of each size from 1 to 4 words, in each part.
func eachMade(young int, old int, count int, visit func(h memHand)) {
	makes := []madeThing{{impl.ClassRoot, 0}, {impl.ClassRefs, 0}, {2, 0}, {impl.ClassInts, 2}}
	var more func(h memHand, left int)
	more = func(h memHand, left int) {
		visit(h)
		if left == 0 {
			return
		}
		for _, what := range makes {
			for _, part := range []bool{false, true} {
				if o := h.made(what); sizeOf(o) <= h.free(part) {
					more(h.withObj(o, part), left-1)
				}
			}
		}
	}
	more(emptyMem(knownClasses(), young, old), count)
}

// farPlaces are none in any memory.
func farPlaces() []int {
	return append(farInts(), -129, -128, -41, -2, -1, 161, 162)
}

// placesIn are all places of a memory, the ones ahead and behind, and far ones.
func placesIn(m impl.Mem) []int {
	all := farPlaces()
	for at := range len(m.Words) + 3 {
		all = append(all, at)
	}
	return all
}

// numbersIn are numbers of what is in things, and such that nothing has.
func numbersIn() []int {
	return append(farInts(), -2, -1, 0, 1, 2, 3, 4, 5, 6, 7, 8)
}

// spoiltMems are not ok, each in one way, of a memory of knownClasses that is.
func spoiltMems() []impl.Mem {
	cs := knownClasses()
	h := emptyMem(cs, 6, 16)
	h = h.withObj(thing(2, ref(0), ref(0)), false).withObj(thing(impl.ClassInts, word(1)), true).withObj(thing(impl.ClassRefs, ref(1)), true).withNeeded()
	m := h.mem()
	spoil := func(change func(m *impl.Mem)) impl.Mem {
		n := copyMem(m)
		change(&n)
		return n
	}
	all := []impl.Mem{
		{},
		spoil(func(m *impl.Mem) { m.Words = nil }),
		spoil(func(m *impl.Mem) { m.Words = m.Words[:6+13] }),
		spoil(func(m *impl.Mem) {
			m.Words, m.Cards = append(m.Words, make([]int, 105)...), slices.Repeat([]bool{true}, 31)
		}),
		spoil(func(m *impl.Mem) { m.Cards = nil }),
		spoil(func(m *impl.Mem) { m.Cards = m.Cards[:3] }),
		spoil(func(m *impl.Mem) { m.Cards = append(m.Cards, false) }),
		spoil(func(m *impl.Mem) { m.Cards = slices.Repeat([]bool{false}, 4) }),
	}
	for _, n := range append(farInts(), -1, 41, 23) {
		all = append(all, spoil(func(m *impl.Mem) { m.Young = n }), spoil(func(m *impl.Mem) { m.Top = n }), spoil(func(m *impl.Mem) { m.Old = n }))
	}
	for _, i := range []int{3, 4, 5, 12, 21} {
		all = append(all, spoil(func(m *impl.Mem) { m.Words[i] = 1 }), spoil(func(m *impl.Mem) { m.Words[i] = -1 }))
	}
	// Where a thing begins, how many are in an array, a word, and what leads.
	for _, n := range append(farInts(), -129, 128) {
		for _, i := range []int{0, 1, 6, 7, 8, 9, 10, 11} {
			all = append(all, spoil(func(m *impl.Mem) { m.Words[i] = n }))
		}
	}
	return all
}
