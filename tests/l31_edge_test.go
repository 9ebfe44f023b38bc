package tests

import (
	"slices"
	"testing"

	"loop.example/entail/impl"
)

// placeUnit has a place, 2, to which one never comes, and where that is told of locals and stack.
func placeUnit(locals []int, stack ...int) impl.Unit {
	code := append([]impl.Ins{ins(impl.InsPush), ins(impl.InsBack)}, slices.Repeat([]impl.Ins{ins(impl.InsPop)}, len(stack))...)
	u := oneMethod(len(locals), append(code, ins(impl.InsPush), ins(impl.InsBack))...)
	return tell(u, 2, shape(locals, stack...))
}

// parted is a machine at the beginning in parts of 12 and 30 words, with things more, made one behind the other: young ones at 1, 4, 5 and 8, old ones at 27 and 30; those that are thrown are at 13 to 25.
func parted(t *testing.T, u impl.Unit) impl.Vm {
	t.Helper()
	v := impl.VmNew(u, 12, 30)
	var places []int
	for _, what := range []struct {
		class int
		n     int
		old   bool
	}{{impl.ClassInts, 1, false}, {0, 0, false}, {2, 0, false}, {impl.ClassRefs, 2, false}, {2, 0, true}, {impl.ClassInts, 0, true}} {
		at := 0
		v.Mem, at = impl.MemMake(u.Classes, v.Mem, what.class, what.n, what.old)
		places = append(places, at)
	}
	if !slices.Equal(places, []int{1, 4, 5, 8, 27, 30}) || !slices.Equal(v.Faults, []int{13, 15, 17, 19, 21, 23, 25}) || v.Mem.Top != 11 || v.Mem.Old != 31 {
		t.Fatal(places, v)
	}
	return v
}

// putVm has that in a thing of its memory.
func putVm(t *testing.T, u impl.Unit, v impl.Vm, at int, k int, n int) impl.Vm {
	t.Helper()
	mem, ok := impl.MemPut(u.Classes, v.Mem, at, k, n)
	if !ok {
		t.Fatal("it cannot be put", at, k, n)
	}
	v.Mem = mem
	return v
}

// at2 is the only call at place 2.
func at2(v impl.Vm, locals []int, stack ...int) impl.Vm {
	v.Calls = []impl.Call{{Method: 0, At: 2, Locals: locals, Stack: stack}}
	return v
}

// mustBeKnown asks for roots and things that are told one by one, beside all else by hand.
func mustBeKnown(t *testing.T, what string, u impl.Unit, v impl.Vm, roots []int, objs []impl.Obj, frames ...impl.Frame) {
	t.Helper()
	h, ok := vmHandOf(machHandOf(u), v)
	if !ok || !impl.VmOk(u, v) {
		t.Fatalf("%s: %v is not ok", what, v)
	}
	var count forcesCounted
	count.hold(t, h)
	if got := impl.VmRoots(u, v); !slices.Equal(got, append(slices.Clone(v.Faults), roots...)) {
		t.Errorf("%s: roots of %v are %v", what, v, got)
	}
	want := impl.Mach{Objs: append(firstThings(), objs...), Frames: frames, Said: v.Said, Steps: v.Steps}
	if view := impl.VmView(u, v); !equalMachs(view, want) {
		t.Errorf("%s: %v is seen as\n%v, not\n%v", what, v, view, want)
	}
}

func TestKnownVmOfEachType(t *testing.T) {
	u := placeUnit([]int{impl.TypeNone, impl.TypeInt, impl.TypeClass + 2}, impl.TypeNull, impl.TypeInts, impl.TypeInt, impl.TypeRefs)
	v := at2(parted(t, u), []int{4, 5, 27}, 0, 1, 8, 8)
	v = putVm(t, u, putVm(t, u, v, 1, 0, 77), 8, 1, 5)
	v.Said, v.Steps = []int{3, -3}, 9
	objs := things(thing(2, ref(0), ref(0)), thing(impl.ClassInts, word(77)), thing(impl.ClassRefs, ref(0), ref(11)), thing(2, ref(0), ref(0)))
	mustBeKnown(t, "each type", u, v, []int{27, 0, 1, 8}, objs, frame(0, 2, vals(word(0), word(5), ref(8)), ref(0), ref(9), word(8), ref(10)))
	minor := impl.VmForce(u, v, 1)
	if c := minor.Calls[0]; !slices.Equal(c.Locals, []int{4, 5, 27}) || !slices.Equal(c.Stack, []int{0, 32, 8, 35}) || minor.Mem.Top != 0 || minor.Mem.Old != 41 || minor.Mem.Words[37] != 39 {
		t.Error(minor)
	}
	major := impl.VmForce(u, v, 2)
	if c := major.Calls[0]; !slices.Equal(c.Locals, []int{4, 5, 27}) || !slices.Equal(c.Stack, []int{0, 30, 8, 36}) || major.Mem.Top != 0 || major.Mem.Old != 39 || major.Mem.Words[38] != 33 {
		t.Error(major)
	}
	nothing := at2(parted(t, u), []int{0, 0, 0}, 0, 0, 0, 0)
	mustBeKnown(t, "all 0", u, nothing, []int{0, 0, 0, 0}, nil, frame(0, 2, vals(word(0), word(0), ref(0)), ref(0), ref(0), word(0), ref(0)))
}

// A local of no type may hold any number: it is no root, and 0 as seen, and stays as it is.
func TestLocalsOfNoTypeInMemories(t *testing.T) {
	u := placeUnit([]int{impl.TypeNone, impl.TypeClass, impl.TypeNone})
	for _, n := range append(allInts(), 27, 28, 30, 31, 42, 43, 60) {
		v := at2(parted(t, u), []int{n, 5, n})
		mustBeKnown(t, "any number", u, v, []int{5}, things(thing(2, ref(0), ref(0))), frame(0, 2, vals(word(0), ref(8), word(0))))
		for _, kind := range []int{1, 2} {
			behind := impl.VmForce(u, v, kind)
			if want := []int{n, v.Mem.Old + 1, n}; kind == 1 && !slices.Equal(behind.Calls[0].Locals, want) {
				t.Errorf("locals are %v, not %v", behind.Calls[0].Locals, want)
			}
			if want := []int{n, 27, n}; kind == 2 && !slices.Equal(behind.Calls[0].Locals, want) {
				t.Errorf("locals are %v, not %v", behind.Calls[0].Locals, want)
			}
		}
	}
}

// What a local of no type once led to is not live for it, and what stands there then is another thing, or none.
func TestWhatALocalOfNoTypeLedTo(t *testing.T) {
	u := branchUnit()
	shapes, _ := impl.PassShapes(u, 0)
	if !slices.Equal(shapes[4].Locals, []int{10, 1}) || !slices.Equal(shapes[9].Locals, []int{0, 1}) || !slices.Equal(shapes[2].Locals, []int{0, 1}) {
		t.Fatal(shapes)
	}
	v := parted(t, u)
	v.Calls = []impl.Call{{At: 4, Locals: []int{5, 0}}}
	mustBeKnown(t, "where it has a type", u, v, []int{5}, things(thing(2, ref(0), ref(0))), frame(0, 4, vals(ref(8), word(0))))
	v.Calls[0].At = 9
	mustBeKnown(t, "where it has none", u, v, nil, nil, frame(0, 9, vals(word(0), word(0))))
	behind := impl.VmForce(u, v, 2)
	if !equalMems(behind.Mem, impl.VmNew(u, 12, 30).Mem) || !slices.Equal(behind.Calls[0].Locals, []int{5, 0}) {
		t.Error(behind)
	}
	mustBeKnown(t, "behind it", u, behind, nil, nil, frame(0, 9, vals(word(0), word(0))))
	// Something else begins there by now: it is not led to, either.
	behind.Mem, _ = impl.MemMake(u.Classes, behind.Mem, impl.ClassRefs, 2, false)
	behind.Mem, _ = impl.MemMake(u.Classes, behind.Mem, impl.ClassInts, 2, false)
	if !slices.Contains(impl.MemWalk(u.Classes, behind.Mem), 5) {
		t.Fatal(behind)
	}
	mustBeKnown(t, "where another one begins", u, behind, nil, nil, frame(0, 9, vals(word(0), word(0))))
}

// pairVm has a call that waits, with less on its stack than the shape tells, and one above.
func pairVm(t *testing.T) (impl.Unit, impl.Vm) {
	t.Helper()
	u := pairUnit()
	v := parted(t, u)
	at := 0
	for _, class := range []int{3, 4} {
		v.Mem, at = impl.MemMake(u.Classes, v.Mem, class, 0, true)
	}
	if at != 36 {
		t.Fatal(at)
	}
	v.Calls = []impl.Call{{At: 5, Locals: []int{5}, Stack: []int{32, 27}}, {Method: 1, At: 1, Locals: []int{36}, Stack: []int{27}}}
	return u, v
}

// The roots of more than one call, in order; what is given to the call above is on the stack of the one below no more.
func TestKnownVmOfTwoCalls(t *testing.T) {
	u, v := pairVm(t)
	objs := things(thing(2, ref(0), ref(0)), thing(3, ref(0), ref(0), ref(0)), thing(2, ref(0), ref(0)), thing(4, word(0), ref(0), word(0)))
	mustBeKnown(t, "two calls", u, v, []int{5, 32, 27, 36, 27}, objs, frame(0, 5, refs(8), ref(9), ref(10)), frame(1, 1, refs(11), ref(10)))
	behind := impl.VmForce(u, v, 2)
	if !slices.Equal(impl.VmRoots(u, behind)[7:], []int{38, 30, 27, 34, 27}) || len(behind.Calls[0].Stack) != 2 {
		t.Error(behind)
	}
	for _, stack := range [][]int{nil, {32}, {32, 27, 36}} {
		v.Calls[0].Stack = stack
		mustNotVm(t, "less is left on the stack, or what was given is still there", u, v)
	}
}

// Things are moved in the order of the roots: those that are thrown, then locals, then the stack, of each call.
func TestRootsInOrder(t *testing.T) {
	u := callUnit()
	own := machHandOf(u)
	m := machOf(things(thing(2, ref(0), ref(0)), thing(3, ref(0), ref(0), ref(0)), thing(0), thing(impl.ClassInts)))
	m.Frames = []impl.Frame{
		frame(0, 6, vals(word(1), word(2)), word(5)),
		frame(2, 1, vals(word(4)), ref(9)),
	}
	mustFit(t, "two calls", u, m)
	h := vmHand{machHand: own, mem: emptyMem(u.Classes, 40, 60), faults: refs(7, 6, 5, 4, 3, 2, 1), m: m}
	h.mem.objs, h.mem.inYoung = m.Objs, 10
	var count forcesCounted
	count.hold(t, h)
	v := impl.VmForce(u, h.vm(), 1)
	if !slices.Equal(v.Faults, []int{43, 45, 47, 49, 51, 53, 55}) || v.Mem.Words[43] != 7 || v.Mem.Words[55] != 1 || !slices.Equal(v.Calls[1].Stack, []int{57}) {
		t.Error(v)
	}
}

// With EndThrown what was thrown is the last root; with EndDone a word is none, be it the number of a place.
func TestKnownVmsThatHaveEnded(t *testing.T) {
	u := callUnit()
	v := parted(t, u)
	at := 0
	v.Mem, at = impl.MemMake(u.Classes, v.Mem, impl.ClassFail, 0, true)
	if at != 32 {
		t.Fatal(at)
	}
	v = putVm(t, u, v, 32, 0, 99)
	v.Calls = nil
	for _, known := range []struct {
		end   int
		out   int
		roots []int
		objs  []impl.Obj
		seen  impl.Val
		major int
	}{
		{impl.EndDone, 5, nil, nil, word(5), 5},
		{impl.EndDone, 32, nil, nil, word(32), 32},
		{impl.EndDone, -128, nil, nil, word(-128), -128},
		{impl.EndDone, 127, nil, nil, word(127), 127},
		{impl.EndDone, 0, nil, nil, word(0), 0},
		{impl.EndThrown, 13, []int{13}, nil, ref(1), 13},
		{impl.EndThrown, 25, []int{25}, nil, ref(7), 25},
		{impl.EndThrown, 32, []int{32}, things(thing(1, word(99))), ref(8), 27},
	} {
		v.End, v.Out = known.end, known.out
		h, ok := vmHandOf(machHandOf(u), v)
		if !ok {
			t.Fatal(known)
		}
		var count forcesCounted
		count.hold(t, h)
		if roots := impl.VmRoots(u, v)[7:]; !slices.Equal(roots, known.roots) {
			t.Errorf("%v has the roots %v", known, roots)
		}
		want := impl.Mach{Objs: append(firstThings(), known.objs...), End: known.end, Out: known.seen}
		if view := impl.VmView(u, v); !equalMachs(view, want) {
			t.Errorf("%v is seen as %v", known, view)
		}
		if behind := impl.VmForce(u, v, 2); behind.Out != known.major || behind.End != known.end {
			t.Errorf("behind VmForce of all %v is %v", known, behind)
		}
	}
}

// The things that are seen come in the order in which one comes to them, wherever they are: those that are thrown first.
func TestKnownOrderOfThings(t *testing.T) {
	u := placeUnit([]int{impl.TypeClass, impl.TypeClass}, impl.TypeClass, impl.TypeClass)
	v := parted(t, u)
	v = putVm(t, u, putVm(t, u, putVm(t, u, v, 8, 0, 30), 8, 1, 5), 27, 0, 1)
	for _, known := range []struct {
		what    string
		numbers []int
		classes []int
	}{
		{"locals ahead of the stack", []int{27, 8, 1, 30}, []int{2, -2, -1, -1, 2}},
		{"the other way round", []int{30, 1, 8, 27}, []int{-1, -1, -2, 2, 2}},
		{"all the same", []int{8, 8, 8, 8}, []int{-2, -1, 2}},
		{"by things alone", []int{0, 27, 0, 0}, []int{2, -1}},
		{"such that are thrown", []int{25, 4, 13, 0}, []int{0}},
	} {
		at := at2(v, known.numbers[:2], known.numbers[2:]...)
		h, ok := vmHandOf(machHandOf(u), at)
		if !ok {
			t.Fatal(known.what)
		}
		var count forcesCounted
		count.hold(t, h)
		var classes []int
		for _, o := range impl.VmView(u, at).Objs[impl.FaultRoom:] {
			classes = append(classes, o.Class)
		}
		if !slices.Equal(classes, known.classes) {
			t.Errorf("%s: %v", known.what, classes)
		}
	}
}

// Where those that are thrown stand is free: in both parts, and in any order; they may have any words by now.
func TestFaultsAnywhere(t *testing.T) {
	u := placeUnit([]int{impl.TypeClass + 1})
	own := machHandOf(u)
	d := &dice{state: 41}
	for range 60 {
		m := machOf(things(thing(1, word(50)), thing(0), thing(1, word(-50))), frame(0, 2, refs(8)))
		for i := range impl.FaultRoom {
			m.Objs[i].Vals[0] = word(d.roll(256) - 128)
		}
		h, _ := d.laidIn(own, m, d.roll(30), 20)
		var count forcesCounted
		count.hold(t, h)
	}
}

// A thing to which nothing leads is not seen: it may have anything in it that a memory may have, also what its class does not tell.
func TestThingsThatAreNotSeen(t *testing.T) {
	u := placeUnit([]int{impl.TypeClass})
	v := putVm(t, u, at2(parted(t, u), []int{4}), 27, 0, 8)
	mustBeKnown(t, "not led to", u, v, []int{4}, things(thing(0)), frame(0, 2, refs(8)))
	mustNotVm(t, "led to", u, at2(v, []int{27}))
}

// P84 to P86: just as much room as is wanted, and a word less, for either kind.
func TestJustRoomForVmForce(t *testing.T) {
	u := placeUnit([]int{impl.TypeClass, impl.TypeClass, impl.TypeClass})
	own := machHandOf(u)
	for free := range 6 {
		m := machOf(things(thing(impl.ClassInts, word(1)), thing(0)), frame(0, 2, refs(8, 9, 0)))
		h := vmHand{machHand: own, mem: emptyMem(u.Classes, 10, 14+free), faults: refs(3, 4, 5, 6, 7, 8, 9), m: m}
		h.mem.objs = slices.Concat(m.Objs[7:], m.Objs[:7])
		h.mem.inYoung = 2
		h.m.Frames[0].Locals = refs(1, 2, 0)
		v := h.vm()
		for _, kind := range []int{1, 2} {
			if behind, room := mustForceAs(t, h, v, kind); room != (free >= 4) || room != (behind.Mem.Top == 0) {
				t.Errorf("with %d words VmForce %d of %v is %v", free, kind, v, behind)
			}
		}
		v.Calls[0].Locals[0] = 0
		led := h.copied()
		led.m.Frames[0].Locals[0] = ref(0)
		if behind, room := mustForceAs(t, led, v, 2); room != (free >= 1) {
			t.Errorf("with %d words VmForce 2 of %v is %v", free, v, behind)
		}
	}
}

// P80: as many calls as there may be, each of which waits but the last one.
func TestVmsOfFrameMaxCalls(t *testing.T) {
	d := &dice{state: 43}
	own := machHandOf(callUnit())
	for count := 1; count <= impl.FrameMax; count++ {
		h, _ := d.laid(own, chain(count))
		var forces forcesCounted
		forces.hold(t, h)
	}
	h, _ := d.laid(own, chain(impl.FrameMax+1))
	mustNotVm(t, "a call more", own.u, h.vm())
}
