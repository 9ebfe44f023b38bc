package tests

import (
	"reflect"
	"slices"
	"testing"

	"loop.example/entail/impl"
)

func spareHeap(h heap) heap {
	out := copyHeap(h)
	for i, o := range out.objs {
		out.objs[i].Vals = spare(o.Vals, ref(spareMark))
	}
	return heap{spare(out.objs, thing(spareMark, ref(spareMark))), spare(out.roots, ref(spareMark))}
}

// wholeHeap is a copy of all that is in the memory of a heap, also behind the ends of its lists.
func wholeHeap(h heap) heap {
	h = heap{slices.Clone(h.objs[:cap(h.objs)]), h.roots[:cap(h.roots)]}
	for i, o := range h.objs {
		h.objs[i].Vals = o.Vals[:cap(o.Vals)]
	}
	return copyHeap(h)
}

// wrongHeaps are not ok by a root, by a thing, or by one to which nothing leads.
func wrongHeaps() []heap {
	return []heap{
		{nil, refs(1)},
		{things(thing(1), thing(2, ref(1))), refs(2, 3)},
		{things(thing(1), thing(2, ref(-1))), refs(2)},
		{things(thing(1, ref(3)), thing(2, word(1))), refs(2)},
	}
}

// oneGround has all its lists in one memory, one behind the other, and two things with the same one.
func oneGround() heap {
	ground := []impl.Val{ref(2), word(1), ref(3), ref(1), ref(3), word(spareMark)}
	objs := things(thing(2, ground[:2]...), thing(3, ground[2:3]...), thing(4, ground[:2]...), thing(spareMark))
	return heap{objs[:3], ground[3:5]}
}

func mustStayWhole(t *testing.T, h heap, was heap) {
	t.Helper()
	if now := wholeHeap(h); !reflect.DeepEqual(now, was) {
		t.Fatalf("%v is %v now", was, now)
	}
}

// Nothing is written into an argument, or behind its end.
func TestHeapsStayAsTheyAre(t *testing.T) {
	for _, first := range slices.Concat(manyHeaps(), someHeaps(8, 500), wrongHeaps()) {
		h := spareHeap(first)
		was := wholeHeap(h)
		impl.HeapOk(h.objs, h.roots)
		mustStayWhole(t, h, was)
		graphOf(h)
		mustStayWhole(t, h, was)
	}
}

// valueLists are the lists of values of a heap, with their spare room.
func valueLists(h heap) [][]impl.Val {
	all := [][]impl.Val{h.roots[:cap(h.roots)]}
	for _, o := range h.objs {
		all = append(all, o.Vals[:cap(o.Vals)])
	}
	return all
}

// overwrite writes a mark of its own into each list of an answer, spare room included, and finds it there behind all others.
func overwrite(t *testing.T, h heap) {
	t.Helper()
	lists := valueLists(h)
	for mark, list := range lists {
		for i := range list {
			list[i] = word(spareMark + mark)
		}
	}
	for mark, list := range lists {
		for _, v := range list {
			if v != word(spareMark+mark) {
				t.Fatalf("two lists of %v share memory", h)
			}
		}
	}
	whole := h.objs[:cap(h.objs)]
	for i := range whole {
		whole[i] = thing(spareMark)
	}
}

// Each list of an answer is memory of its own: writing into it changes no argument, no other list, and no other answer.
func TestGraphsAreNewMemory(t *testing.T) {
	for _, first := range slices.Concat(manyHeaps(), someHeaps(9, 500), wrongHeaps(), []heap{oneGround()}) {
		for _, h := range []heap{spareHeap(first), first} {
			was, want := wholeHeap(h), graphByHand(h)
			one, other := graphOf(h), graphOf(h)
			overwrite(t, one)
			mustStayWhole(t, h, was)
			if !equalHeaps(other, want) {
				t.Fatalf("of %v it was %v, and is %v now", h, want, other)
			}
			overwrite(t, other)
			mustStayWhole(t, h, was)
			if again := graphOf(h); !equalHeaps(again, want) {
				t.Fatalf("of %v it was %v, and is %v when asked again", h, want, again)
			}
		}
	}
}

// A graph of a graph is the same, but in memory of its own.
func TestGraphsOfGraphsAreNewMemory(t *testing.T) {
	for _, h := range someHeaps(10, 500) {
		graph := graphOf(h)
		was := wholeHeap(graph)
		overwrite(t, graphOf(graph))
		mustStayWhole(t, graph, was)
	}
}
