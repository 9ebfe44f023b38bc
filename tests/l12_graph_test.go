package tests

import (
	"math"
	"slices"
	"testing"

	"loop.example/entail/impl"
)

// knownGraph is a heap, and what HeapGraph is of it.
type knownGraph struct {
	what string
	from heap
	want heap
}

func mustGraph(t *testing.T, what string, h heap, want heap) {
	t.Helper()
	if !impl.HeapOk(h.objs, h.roots) {
		t.Fatalf("%s: %v is not ok", what, h)
	}
	if got := graphOf(h); !equalHeaps(got, want) {
		t.Fatalf("%s: of %v it is %v, not %v", what, h, got, want)
	}
}

func mustNotGraph(t *testing.T, what string, h heap) {
	t.Helper()
	if impl.HeapOk(h.objs, h.roots) {
		t.Fatalf("%s: %v is ok", what, h)
	}
	if got := graphOf(h); !isNoHeap(got) {
		t.Fatalf("%s: of %v it is %v, not nothing", what, h, got)
	}
}

func mustGraphAll(t *testing.T, all []knownGraph) {
	t.Helper()
	for _, k := range all {
		mustGraph(t, k.what, k.from, k.want)
	}
}

func knownRoots() []knownGraph {
	three := things(thing(2), thing(3), thing(4))
	return []knownGraph{
		{"nothing at all", heap{}, heap{}},
		{"empty lists", heap{[]impl.Obj{}, []impl.Val{}}, heap{}},
		{"no things", heap{nil, []impl.Val{word(1), ref(0)}}, heap{nil, []impl.Val{word(1), ref(0)}}},
		{"no roots", heap{three, nil}, heap{}},
		{"a root that is a word", heap{three, []impl.Val{word(2)}}, heap{nil, []impl.Val{word(2)}}},
		{"a root that leads to nothing", heap{three, refs(0)}, heap{nil, refs(0)}},
		{"a root to the first", heap{three, refs(1)}, heap{things(thing(2)), refs(1)}},
		{"a root to the last", heap{three, refs(3)}, heap{things(thing(4)), refs(1)}},
		{"the only thing", heap{things(thing(1, word(7))), refs(1)}, heap{things(thing(1, word(7))), refs(1)}},
		{"two roots to one thing", heap{three, refs(2, 2)}, heap{things(thing(3)), refs(1, 1)}},
		{"two roots to one thing, and one between", heap{three, refs(3, 1, 3)}, heap{things(thing(4), thing(2)), refs(1, 2, 1)}},
		{"roots of all sorts", heap{three, []impl.Val{word(3), ref(3), ref(0), word(-1), ref(1)}}, heap{things(thing(4), thing(2)), []impl.Val{word(3), ref(1), ref(0), word(-1), ref(2)}}},
		{"all from behind", heap{three, refs(3, 2, 1)}, heap{things(thing(4), thing(3), thing(2)), refs(1, 2, 3)}},
	}
}

func knownLeads() []knownGraph {
	return []knownGraph{
		{"a word that has the number of a thing", heap{things(thing(2, word(2)), thing(3)), refs(1)}, heap{things(thing(2, word(2))), refs(1)}},
		{"a word that has its own number", heap{things(thing(3), thing(2, word(2))), refs(2)}, heap{things(thing(2, word(2))), refs(1)}},
		{"a thing that leads to nothing", heap{things(thing(3), thing(2, ref(0), word(0))), refs(2)}, heap{things(thing(2, ref(0), word(0))), refs(1)}},
		{"itself", heap{things(thing(3), thing(2, ref(2))), refs(2)}, heap{things(thing(2, ref(1))), refs(1)}},
		{"itself, twice", heap{things(thing(3), thing(2, ref(2), ref(2))), refs(2, 2)}, heap{things(thing(2, ref(1), ref(1))), refs(1, 1)}},
		{"itself, but no root leads there", heap{things(thing(2, ref(1)), thing(3)), refs(2)}, heap{things(thing(3)), refs(1)}},
		{"a circle of two", heap{things(thing(2, ref(2)), thing(3, ref(1))), refs(2)}, heap{things(thing(3, ref(2)), thing(2, ref(1))), refs(1)}},
		{"a circle of two, but no root leads there", heap{things(thing(2, ref(2)), thing(3, ref(1)), thing(4)), refs(3)}, heap{things(thing(4)), refs(1)}},
		{"a circle of three", heap{things(thing(2, ref(3)), thing(3, ref(1)), thing(4, ref(2))), refs(2)}, heap{things(thing(3, ref(2)), thing(2, ref(3)), thing(4, ref(1))), refs(1)}},
		{"a circle of three, two roots", heap{things(thing(2, ref(2)), thing(3, ref(3)), thing(4, ref(1))), refs(3, 2)}, heap{things(thing(4, ref(3)), thing(3, ref(1)), thing(2, ref(2))), refs(1, 2)}},
		{"a way into a circle", heap{things(thing(2, ref(3)), thing(3, ref(1)), thing(4, ref(1))), refs(2)}, heap{things(thing(3, ref(2)), thing(2, ref(3)), thing(4, ref(2))), refs(1)}},
		{"two things to one", heap{things(thing(2), thing(3, ref(1)), thing(4, ref(1))), refs(3, 2)}, heap{things(thing(4, ref(3)), thing(3, ref(3)), thing(2)), refs(1, 2)}},
		{"to another twice", heap{things(thing(2), thing(3, ref(1), word(1), ref(1))), refs(2)}, heap{things(thing(3, ref(2), word(1), ref(2)), thing(2)), refs(1)}},
		{"by a root and by a thing ahead", heap{things(thing(2), thing(3), thing(4, ref(2), ref(1))), refs(3, 1)}, heap{things(thing(4, ref(3), ref(2)), thing(2), thing(3)), refs(1, 2)}},
		{"by a root and by a thing behind", heap{things(thing(2, ref(2)), thing(3)), refs(2, 1)}, heap{things(thing(3), thing(2, ref(1))), refs(1, 2)}},
		{"none at the beginning", heap{things(thing(9, ref(2)), thing(2, ref(3)), thing(3)), refs(2)}, heap{things(thing(2, ref(2)), thing(3)), refs(1)}},
		{"none between", heap{things(thing(2, ref(3)), thing(9, ref(3), ref(1)), thing(3)), refs(1)}, heap{things(thing(2, ref(2)), thing(3)), refs(1)}},
		{"none at the end", heap{things(thing(2, ref(2)), thing(3), thing(9, ref(3))), refs(1)}, heap{things(thing(2, ref(2)), thing(3)), refs(1)}},
		{"none at all these", heap{things(thing(9), thing(2, ref(4)), thing(9, ref(5)), thing(3), thing(9, ref(1))), refs(2)}, heap{things(thing(2, ref(2)), thing(3)), refs(1)}},
		{"from the last place to the first", heap{things(thing(2), thing(3, ref(1)), thing(4, ref(2)), thing(5, ref(3))), refs(4)}, heap{things(thing(5, ref(2)), thing(4, ref(3)), thing(3, ref(4)), thing(2)), refs(1)}},
	}
}

// knownOrders go wrong, if one goes on at once from a thing to what is in it, or begins with the last one.
func knownOrders() []knownGraph {
	return []knownGraph{
		{"roots first", heap{things(thing(2, ref(3)), thing(3), thing(4)), refs(1, 2)}, heap{things(thing(2, ref(3)), thing(3), thing(4)), refs(1, 2)}},
		{"one thing behind the other",
			heap{things(thing(2, ref(3), ref(4)), thing(3, ref(5), ref(6)), thing(4, ref(7)), thing(5), thing(6), thing(7), thing(8)), refs(2, 1)},
			heap{things(thing(3, ref(3), ref(4)), thing(2, ref(5), ref(6)), thing(6), thing(7), thing(4, ref(7)), thing(5), thing(8)), refs(1, 2)}},
		{"near ahead of far",
			heap{things(thing(2, ref(2), ref(3)), thing(3, ref(4)), thing(4, ref(5)), thing(5, ref(5)), thing(6)), refs(1)},
			heap{things(thing(2, ref(2), ref(3)), thing(3, ref(4)), thing(4, ref(5)), thing(5, ref(5)), thing(6)), refs(1)}},
		{"the last of a thing is near, the first one's far",
			heap{things(thing(2, ref(3), ref(2)), thing(3), thing(4, ref(4)), thing(5, ref(2))), refs(1)},
			heap{things(thing(2, ref(2), ref(3)), thing(4, ref(4)), thing(3), thing(5, ref(3))), refs(1)}},
		{"arrays", heap{things(thing(impl.ClassInts, word(1), word(2)), thing(impl.ClassRefs, ref(3), ref(0), ref(1)), thing(impl.ClassRefs)), refs(2)},
			heap{things(thing(impl.ClassRefs, ref(2), ref(0), ref(3)), thing(impl.ClassRefs), thing(impl.ClassInts, word(1), word(2))), refs(1)}},
	}
}

func TestKindsOfThings(t *testing.T) {
	if impl.ClassInts != -1 || impl.ClassRefs != -2 {
		t.Error(impl.ClassInts, impl.ClassRefs)
	}
}

func TestKnownGraphs(t *testing.T) {
	mustGraphAll(t, knownRoots())
	mustGraphAll(t, knownLeads())
	mustGraphAll(t, knownOrders())
}

// Words, and classes that are none, are left as they are, however small or great.
func TestGraphsWithFarNumbers(t *testing.T) {
	for _, n := range allInts() {
		h := heap{things(thing(1), thing(n), thing(n, word(n), ref(2), word(-n), ref(3))), []impl.Val{word(n), ref(3)}}
		mustGraph(t, "far", h, heap{things(thing(n, word(n), ref(2), word(-n), ref(1)), thing(n)), []impl.Val{word(n), ref(1)}})
		mustGraph(t, "a word alone", heap{nil, []impl.Val{word(n)}}, heap{nil, []impl.Val{word(n)}})
	}
}

// noThings are numbers that no thing has, if there are so many.
func noThings(count int) []int {
	return []int{math.MinInt, math.MinInt + 1, -1 << 32, -count - 1, -2, -1, count + 1, count + 2, 1 << 32, 1<<32 + 1, math.MaxInt - 1, math.MaxInt}
}

// manyHeaps are ok, known or not.
func manyHeaps() []heap {
	all := someHeaps(3, 60)
	for _, k := range slices.Concat(knownRoots(), knownLeads(), knownOrders()) {
		all = append(all, k.from)
	}
	return all
}

// One value that leads to no thing is enough, wherever it stands; as a word it may be any number.
func TestValuesThatLeadToNoThing(t *testing.T) {
	for _, first := range manyHeaps() {
		h := copyHeap(first)
		for _, v := range valuesOf(h) {
			was := *v
			for _, n := range noThings(len(h.objs)) {
				*v = ref(n)
				mustNotGraph(t, "it leads to no thing", h)
				*v = word(n)
				mustGraph(t, "a word", h, graphByHand(h))
			}
			*v = was
		}
	}
}

func TestRootsThatLeadToNoThing(t *testing.T) {
	for _, first := range manyHeaps() {
		for _, n := range noThings(len(first.objs)) {
			h := copyHeap(first)
			h.roots = append(h.roots, ref(n))
			mustNotGraph(t, "the last root", h)
		}
	}
	for _, n := range noThings(0) {
		mustNotGraph(t, "no things", heap{nil, refs(n)})
	}
	for _, n := range noThings(1) {
		mustNotGraph(t, "one thing", heap{things(thing(1)), refs(1, n, 1)})
	}
}

func TestThingsLeftAsideThatLeadToNoThing(t *testing.T) {
	for _, first := range manyHeaps() {
		for at := range len(first.objs) + 1 {
			for _, n := range noThings(len(first.objs) + 1) {
				mustNotGraph(t, "a thing more", withThing(first, at, thing(1, word(1), ref(0), ref(n))))
			}
		}
	}
}

// mustHoldPromises asks P34 and P35, and whether it is as by hand.
func mustHoldPromises(t *testing.T, h heap) heap {
	t.Helper()
	if impl.HeapOk(h.objs, h.roots) != okByHand(h) {
		t.Fatalf("%v is ok: %t", h, okByHand(h))
	}
	graph := graphOf(h)
	if want := graphByHand(h); !equalHeaps(graph, want) {
		t.Fatalf("of %v it is %v, not %v", h, graph, want)
	}
	if again := graphOf(graph); !equalHeaps(again, graph) || len(graph.objs) > len(h.objs) {
		t.Fatalf("of %v it is %v, and of that %v", h, graph, again)
	}
	mustComeFromAhead(t, graph)
	return graph
}

// mustComeFromAhead goes by how many things one has come to: by roots, and then by each thing that stands there already, one is led to these, or to the next one.
func mustComeFromAhead(t *testing.T, graph heap) {
	t.Helper()
	come := 0
	follow := func(vals []impl.Val) {
		for _, v := range vals {
			if v.Ref && v.N == come+1 {
				come++
			} else if v.Ref && (v.N < 0 || v.N > come) {
				t.Fatalf("%v: one is led to %d, but has come to %d", graph, v.N, come)
			}
		}
	}
	follow(graph.roots)
	for i, o := range graph.objs {
		if i >= come {
			t.Fatalf("%v: neither a root nor a thing ahead leads to %d", graph, i+1)
		}
		follow(o.Vals)
	}
	if come != len(graph.objs) {
		t.Fatalf("%v: nothing leads to the last", graph)
	}
}

// P34, P35: all heaps of few things.
func TestSmallGraphs(t *testing.T) {
	count, longest := 0, 0
	eachSmallHeap(func(h heap) {
		graph := mustHoldPromises(t, h)
		count++
		if len(graph.objs) == 3 {
			longest++
		}
	})
	if count < 200000 || longest < 50000 {
		t.Error("too few", count, longest)
	}
}

// P34, P35: larger ones, of which some, all or none of the things are left.
func TestLargerGraphs(t *testing.T) {
	all, some, none := 0, 0, 0
	for _, h := range someHeaps(1, 20000) {
		graph := mustHoldPromises(t, h)
		switch len(graph.objs) {
		case 0:
			none++
		case len(h.objs):
			all++
		default:
			some++
		}
	}
	if all < 500 || some < 5000 || none < 500 {
		t.Error("too few", all, some, none)
	}
}

// thingsMore lead nowhere, to themselves, or to others, once the thing stands at that place among so many.
func thingsMore(at int, count int) []impl.Obj {
	all := things(thing(0), thing(impl.ClassInts, word(1), word(at+1)), thing(impl.ClassRefs, ref(0)), thing(9, ref(at+1)), thing(math.MinInt, ref(1), ref(count)))
	var every []impl.Val
	for n := range count + 1 {
		every = append(every, ref(n))
	}
	return append(all, thing(1, every...))
}

// P36
func TestAThingMoreToWhichNothingLeads(t *testing.T) {
	for _, h := range slices.Concat(manyHeaps(), someHeaps(5, 500)) {
		want := graphOf(h)
		for at := range len(h.objs) + 1 {
			for _, more := range thingsMore(at, len(h.objs)+1) {
				mustGraph(t, "a thing more", withThing(h, at, more), want)
			}
		}
	}
}

// P36: nor do two that lead to each other alone, though something leads to each of them.
func TestACircleMoreToWhichNothingLeads(t *testing.T) {
	for _, h := range someHeaps(6, 500) {
		more := copyHeap(h)
		count := len(h.objs)
		more.objs = append(more.objs, thing(7, ref(count+2), ref(1)), thing(8, ref(count+1)))
		mustGraph(t, "a circle more", more, graphOf(h))
	}
}

// P37: the same three things, which lead to each other, in every order.
func TestThreeThingsInEveryOrder(t *testing.T) {
	h := heap{things(thing(2, ref(2), word(1)), thing(3, ref(3), ref(0)), thing(4, ref(1), word(2), ref(3))), []impl.Val{word(3), ref(2)}}
	want := heap{things(thing(3, ref(2), ref(0)), thing(4, ref(3), word(2), ref(2)), thing(2, ref(1), word(1))), []impl.Val{word(3), ref(1)}}
	orders := everyOrder(3)
	if len(orders) != 6 {
		t.Fatal(orders)
	}
	for _, order := range orders {
		mustGraph(t, "another order", inOrder(h, order), want)
	}
}

// P37
func TestSmallGraphsInEveryOrder(t *testing.T) {
	orders := [][][]int{everyOrder(0), everyOrder(1), everyOrder(2), everyOrder(3)}
	eachSmallHeap(func(h heap) {
		want := graphOf(h)
		for _, order := range orders[len(h.objs)] {
			if got := graphOf(inOrder(h, order)); !equalHeaps(got, want) {
				t.Fatalf("of %v it is %v, but in the order %v it is %v", h, want, order, got)
			}
		}
	})
}

// P37
func TestLargerGraphsInOtherOrders(t *testing.T) {
	d := &dice{state: 11}
	for _, h := range someHeaps(2, 3000) {
		want := graphOf(h)
		for range 4 {
			mustGraph(t, "another order", inOrder(h, d.someOrder(len(h.objs))), want)
		}
	}
}

// A chain from the last place to the first, and a thing that leads to all: neither is too long.
func TestLongGraphs(t *testing.T) {
	const count = 100000
	var chain, chained heap
	all := thing(impl.ClassRefs)
	for i := range count {
		chain.objs = append(chain.objs, thing(i, ref(i)))
		chained.objs = append(chained.objs, thing(count-1-i, ref((i+2)%(count+1))))
		all.Vals = append(all.Vals, ref(i+1))
	}
	chain.roots, chained.roots = refs(count), refs(1)
	mustGraph(t, "a chain", chain, chained)
	wide := graphOf(heap{append(chain.objs, all), refs(count + 1)})
	if len(wide.objs) != count+1 || wide.objs[count].Class != count-1 || wide.objs[count].Vals[0] != ref(count) || wide.objs[1].Vals[0] != ref(0) {
		t.Error("a thing that leads to all", len(wide.objs), wide.objs[count], wide.objs[1])
	}
}
