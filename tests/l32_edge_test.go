package tests

import (
	"slices"
	"testing"

	"loop.example/entail/impl"
)

// edgeTypes and edgeLocals are what the locals of a host are, and have, in edgeVm.
func edgeTypes() []int {
	return []int{impl.TypeNone, impl.TypeInt, impl.TypeClass + 2}
}

func edgeLocals() []int {
	return []int{4, 40, 27}
}

// edgeVm is parted, with a thing of class 3 at 32, and with something in each: 77 in the words at 1, to which 5 leads, too; 1 and 5 in the array at 8; 30 in the thing at 27. The fault n is at 27 - 2n: the other way round than at the beginning.
func edgeVm(t *testing.T, u impl.Unit, stack ...int) impl.Vm {
	t.Helper()
	v := parted(t, u)
	at := 0
	v.Mem, at = impl.MemMake(u.Classes, v.Mem, 3, 0, true)
	if at != 32 {
		t.Fatal(at)
	}
	for _, put := range [][3]int{{1, 0, 77}, {5, 0, 1}, {8, 0, 1}, {8, 1, 5}, {27, 0, 30}} {
		v = putVm(t, u, v, put[0], put[1], put[2])
	}
	slices.Reverse(v.Faults)
	v = at2(v, edgeLocals(), stack...)
	v.Said, v.Steps = []int{3, -4}, 17
	return v
}

func mustVmStepTo(t *testing.T, what string, u impl.Unit, v impl.Vm, want impl.Vm) {
	t.Helper()
	if !impl.VmOk(u, v) {
		t.Fatalf("%s: %v of %v is not ok", what, v, u)
	}
	if got := impl.VmStep(u, v); !equalVms(got, want) {
		t.Fatalf("%s: in %v VmStep of\n%v is\n%v, not\n%v", what, u, v, got, want)
	}
}

// vmEdge is an instruction, what it takes, by types and as numbers, what it leaves there, and what else it does, if anything, beside going on at the next place.
type vmEdge struct {
	i     impl.Ins
	types []int
	takes []int
	gives []int
	also  func(v *impl.Vm)
}

func lastCall(v *impl.Vm) *impl.Call {
	return &v.Calls[len(v.Calls)-1]
}

func storesIn(local int, n int) func(v *impl.Vm) {
	return func(v *impl.Vm) { lastCall(v).Locals[local] = n }
}

// writes has that word at a place, and those cards set.
func writes(at int, n int, cards ...int) func(v *impl.Vm) {
	return func(v *impl.Vm) {
		v.Mem.Words[at-1] = n
		for _, c := range cards {
			v.Mem.Cards[c] = true
		}
	}
}

func beginsCall(method int, locals ...int) func(v *impl.Vm) {
	return func(v *impl.Vm) {
		lastCall(v).At--
		v.Calls = append(v.Calls, impl.Call{Method: method, Locals: locals})
	}
}

func endsWith(n int) func(v *impl.Vm) {
	return func(v *impl.Vm) { v.Calls, v.End, v.Out = nil, impl.EndDone, n }
}

// jumps is of a host whose stack is as large behind it as told: what comes at the next place takes that.
func jumps(v *impl.Vm) {
	c := lastCall(v)
	c.At = hostAt + 3 + len(c.Stack)
}

// jumpsAlways is of a host that never comes to the next place, so that nothing is told there.
func jumpsAlways(v *impl.Vm) {
	lastCall(v).At = hostAt + 3
}

const (
	inInts  = impl.TypeInts
	inRefs  = impl.TypeRefs
	inAny   = impl.TypeClass
	inFail  = impl.TypeClass + impl.ClassFail
	inTwo   = impl.TypeClass + 2
	inThree = impl.TypeClass + 3
	inWord  = impl.TypeInt
	inNull  = impl.TypeNull
)

// vmWordEdges have to do with no things.
func vmWordEdges() []vmEdge {
	two := []int{inWord, inWord}
	return []vmEdge{
		{ins(impl.InsPush, -128), nil, nil, []int{-128}, nil},
		{ins(impl.InsPush, 127), nil, nil, []int{127}, nil},
		{ins(impl.InsNull), nil, nil, []int{0}, nil},
		{ins(impl.InsLoad, 1), nil, nil, []int{40}, nil},
		{ins(impl.InsLoad, 2), nil, nil, []int{27}, nil},
		{ins(impl.InsStore, 0), []int{inRefs}, []int{8}, nil, storesIn(0, 8)},
		{ins(impl.InsStore, 1), []int{inThree}, []int{32}, nil, storesIn(1, 32)},
		{ins(impl.InsStore, 2), []int{inNull}, []int{0}, nil, storesIn(2, 0)},
		{ins(impl.InsPop), []int{inTwo}, []int{5}, nil, nil},
		{ins(impl.InsPop), []int{inWord}, []int{5}, nil, nil},
		{ins(impl.InsDup), []int{inInts}, []int{1}, []int{1, 1}, nil},
		{ins(impl.InsDup), []int{inWord}, []int{-9}, []int{-9, -9}, nil},
		{ins(impl.InsDo, impl.OpAdd), two, []int{100, 100}, []int{-56}, nil},
		{ins(impl.InsDo, impl.OpSub), two, []int{3, 5}, []int{-2}, nil},
		{ins(impl.InsDo, impl.OpMul), two, []int{5, 0}, []int{0}, nil},
		{ins(impl.InsDo, impl.OpDiv), two, []int{-7, 2}, []int{-3}, nil},
		{ins(impl.InsDo, impl.OpDiv), two, []int{0, 2}, []int{0}, nil},
		{ins(impl.InsLess), two, []int{-1, 0}, nil, jumps},
		{ins(impl.InsLess), two, []int{0, 0}, nil, nil},
		{ins(impl.InsLess), two, []int{1, 0}, nil, nil},
		{ins(impl.InsSame), two, []int{9, 9}, nil, jumps},
		{ins(impl.InsSame), two, []int{9, 8}, nil, nil},
		{ins(impl.InsSame), two, []int{8, 9}, nil, nil},
		{ins(impl.InsNil), []int{inTwo}, []int{0}, nil, jumps},
		{ins(impl.InsNil), []int{inNull}, []int{0}, nil, jumps},
		{ins(impl.InsNil), []int{inInts}, []int{1}, nil, nil},
		{ins(impl.InsGo), nil, nil, nil, jumpsAlways},
		{ins(impl.InsBack), []int{inWord}, []int{7}, nil, endsWith(7)},
		{ins(impl.InsBack), []int{inWord}, []int{0}, nil, endsWith(0)},
		{ins(impl.InsSay), []int{inWord}, []int{-128}, nil, func(v *impl.Vm) { v.Said = append(v.Said, -128) }},
	}
}

// vmThingEdges have to do with things, or call.
func vmThingEdges() []vmEdge {
	return []vmEdge{
		{ins(impl.InsLen), []int{inInts}, []int{1}, []int{1}, nil},
		{ins(impl.InsLen), []int{inInts}, []int{30}, []int{0}, nil},
		{ins(impl.InsLen), []int{inRefs}, []int{8}, []int{2}, nil},
		{ins(impl.InsAt, 0), []int{inInts, inWord}, []int{1, 0}, []int{77}, nil},
		{ins(impl.InsAt, 1), []int{inRefs, inWord}, []int{8, 0}, []int{1}, nil},
		{ins(impl.InsAt, 1), []int{inRefs, inWord}, []int{8, 1}, []int{5}, nil},
		{ins(impl.InsSet, 0), []int{inInts, inWord, inWord}, []int{1, 0, -5}, nil, writes(3, -5)},
		{ins(impl.InsSet, 1), []int{inRefs, inWord, inTwo}, []int{8, 0, 27}, nil, writes(10, 27)},
		{ins(impl.InsSet, 1), []int{inRefs, inWord, inNull}, []int{8, 1, 0}, nil, writes(11, 0)},
		{ins(impl.InsGet, 2, 0), []int{inTwo}, []int{27}, []int{30}, nil},
		{ins(impl.InsGet, 2, 0), []int{inTwo}, []int{5}, []int{1}, nil},
		{ins(impl.InsGet, 2, 1), []int{inThree}, []int{32}, []int{0}, nil},
		{ins(impl.InsGet, 1, 0), []int{inFail}, []int{15}, []int{2}, nil},
		{ins(impl.InsPut, 1, 0), []int{inFail, inWord}, []int{15, 99}, nil, writes(16, 99)},
		{ins(impl.InsPut, 2, 0), []int{inTwo, inInts}, []int{5, 30}, nil, writes(6, 30)},
		{ins(impl.InsPut, 2, 0), []int{inTwo, inInts}, []int{27, 1}, nil, writes(28, 1, 3)},
		{ins(impl.InsPut, 2, 0), []int{inTwo, inInts}, []int{27, 30}, nil, writes(28, 30)},
		{ins(impl.InsPut, 2, 1), []int{inTwo, inThree}, []int{27, 32}, nil, writes(29, 32)},
		{ins(impl.InsPut, 3, 2), []int{inThree, inRefs}, []int{32, 8}, nil, writes(35, 8, 5)},
		{ins(impl.InsCast, 2), []int{inAny}, []int{32}, []int{32}, nil},
		{ins(impl.InsCast, 3), []int{inTwo}, []int{32}, []int{32}, nil},
		{ins(impl.InsCast, 0), []int{inRefs}, []int{8}, []int{8}, nil},
		{ins(impl.InsCast, 4), []int{inTwo}, []int{0}, []int{0}, nil},
		{ins(impl.InsCall, 0), nil, nil, nil, beginsCall(0, 0, 0, 0)},
		{ins(impl.InsCall, 1), []int{inInts, inTwo}, []int{1, 32}, nil, beginsCall(1, 1, 32)},
		{ins(impl.InsCall, 1), []int{inNull, inTwo}, []int{0, 5}, nil, beginsCall(1, 0, 5)},
		{ins(impl.InsSend, 2, 1), []int{inTwo, inWord}, []int{5, 6}, nil, beginsCall(2, 5, 6)},
		{ins(impl.InsSend, 2, 1), []int{inTwo, inWord}, []int{32, 6}, nil, beginsCall(3, 32, 6)},
		{ins(impl.InsSend, 3, 1), []int{inThree, inWord}, []int{32, -6}, nil, beginsCall(3, 32, -6)},
	}
}

// belowTypes and belowValues are what is below on the stack, and stays there.
func belowTypes(count int) []int {
	return []int{inWord, inAny, inNull, inWord}[:count]
}

func belowValues(count int) []int {
	return []int{101, 5, 0, -104}[:count]
}

// mostBelow is how much may be below: no more than StackMax are on the stack, and the code of a host that jumps is no longer than it may be.
func (e vmEdge) mostBelow() int {
	if jumping(e.i.Kind) {
		return 2
	}
	// What is called gives back one more, in the end.
	return impl.StackMax - max(len(e.takes), len(e.gives), 1)
}

// P87, P88: each instruction is done, however much is below.
func TestInstructionsInMemories(t *testing.T) {
	var kinds [impl.InsSay + 1]int
	for _, e := range append(vmWordEdges(), vmThingEdges()...) {
		kinds[e.i.Kind]++
		for below := range e.mostBelow() + 1 {
			u := hostUnitOf(e.i, shape(edgeTypes(), append(belowTypes(below), e.types...)...), 1)
			v := edgeVm(t, u, append(belowValues(below), e.takes...)...)
			want := copyVm(v)
			want.Steps++
			want.Calls[0].At++
			want.Calls[0].Stack = append(belowValues(below), e.gives...)
			if e.also != nil {
				e.also(&want)
			}
			mustVmStepTo(t, "done", u, v, want)
			if h, ok := vmHandOf(machHandOf(u), v); !ok || mustVmStepAs(t, h).short {
				t.Fatal(v)
			}
		}
	}
	kinds[impl.InsNew], kinds[impl.InsArr], kinds[impl.InsThrow] = 1, 1, 1
	if slices.Min(kinds[1:]) == 0 {
		t.Error("one has no edge", kinds)
	}
}

// vmThrows are as vmEdges, and throw the thing at that place.
func vmThrows() map[int][]vmEdge {
	fault := func(n int) int { return 27 - 2*n }
	return map[int][]vmEdge{
		fault(impl.FaultDiv): {
			{i: ins(impl.InsDo, impl.OpDiv), types: []int{inWord, inWord}, takes: []int{5, 0}},
			{i: ins(impl.InsThrow), types: []int{inFail}, takes: []int{25}},
		},
		fault(impl.FaultNull): {
			{i: ins(impl.InsLen), types: []int{inRefs}, takes: []int{0}},
			{i: ins(impl.InsAt, 0), types: []int{inInts, inWord}, takes: []int{0, 0}},
			{i: ins(impl.InsAt, 1), types: []int{inNull, inWord}, takes: []int{0, -1}},
			{i: ins(impl.InsSet, 0), types: []int{inInts, inWord, inWord}, takes: []int{0, 7, 1}},
			{i: ins(impl.InsSet, 1), types: []int{inRefs, inWord, inAny}, takes: []int{0, 0, 5}},
			{i: ins(impl.InsGet, 2, 1), types: []int{inTwo}, takes: []int{0}},
			{i: ins(impl.InsPut, 2, 0), types: []int{inThree, inInts}, takes: []int{0, 1}},
			{i: ins(impl.InsSend, 2, 1), types: []int{inTwo, inWord}, takes: []int{0, 6}},
			{i: ins(impl.InsThrow), types: []int{inFail}, takes: []int{0}},
			{i: ins(impl.InsThrow), types: []int{inNull}, takes: []int{0}},
		},
		fault(impl.FaultPlace): {
			{i: ins(impl.InsAt, 0), types: []int{inInts, inWord}, takes: []int{1, -1}},
			{i: ins(impl.InsAt, 0), types: []int{inInts, inWord}, takes: []int{1, 1}},
			{i: ins(impl.InsAt, 0), types: []int{inInts, inWord}, takes: []int{30, 0}},
			{i: ins(impl.InsAt, 1), types: []int{inRefs, inWord}, takes: []int{8, 2}},
			{i: ins(impl.InsAt, 1), types: []int{inRefs, inWord}, takes: []int{8, -128}},
			{i: ins(impl.InsSet, 0), types: []int{inInts, inWord, inWord}, takes: []int{1, 1, 9}},
			{i: ins(impl.InsSet, 1), types: []int{inRefs, inWord, inAny}, takes: []int{8, 127, 5}},
			{i: ins(impl.InsSet, 1), types: []int{inRefs, inWord, inAny}, takes: []int{8, -1, 5}},
		},
		fault(impl.FaultSize): {
			{i: ins(impl.InsArr, 0), types: []int{inWord}, takes: []int{-1}},
			{i: ins(impl.InsArr, 0), types: []int{inWord}, takes: []int{impl.ArrayMax + 1}},
			{i: ins(impl.InsArr, 1), types: []int{inWord}, takes: []int{-128}},
			{i: ins(impl.InsArr, 1), types: []int{inWord}, takes: []int{127}},
		},
		fault(impl.FaultCast): {
			{i: ins(impl.InsCast, 1), types: []int{inAny}, takes: []int{5}},
			{i: ins(impl.InsCast, 3), types: []int{inTwo}, takes: []int{27}},
			{i: ins(impl.InsCast, 2), types: []int{inInts}, takes: []int{1}},
			{i: ins(impl.InsCast, 4), types: []int{inFail}, takes: []int{13}},
		},
		fault(impl.FaultDeep): {{i: ins(impl.InsThrow), types: []int{inFail}, takes: []int{15}}},
		fault(impl.FaultRoom): {{i: ins(impl.InsThrow), types: []int{inFail}, takes: []int{13}}},
	}
}

// waiter is a call of method 1 of a host, which waits for method 0.
func waiter() impl.Call {
	return impl.Call{Method: 1, Locals: []int{1, 27}}
}

// mustThrowAt says that nobody catches, that the call itself does, and that one below does; nothing else is done.
func mustThrowAt(t *testing.T, e vmEdge, below int, at int) {
	t.Helper()
	u := hostUnitOf(e.i, shape(edgeTypes(), append(belowTypes(below), e.types...)...), 1)
	v := edgeVm(t, u, append(belowValues(below), e.takes...)...)
	want := copyVm(v)
	want.Steps++
	want.Calls, want.End, want.Out = nil, impl.EndThrown, at
	mustVmStepTo(t, "thrown", u, v, want)
	want = copyVm(v)
	want.Steps++
	want.Calls[0].At, want.Calls[0].Stack = lastTold(u), []int{at}
	mustVmStepTo(t, "caught", withCatch(u), v, want)
	v.Calls = []impl.Call{waiter(), v.Calls[0]}
	want.Calls = []impl.Call{waiter()}
	want.Calls[0].At, want.Calls[0].Stack = 2, []int{at}
	mustVmStepTo(t, "caught below", caughtByCallers(u, 1), v, want)
}

// P87, P88: what goes wrong throws one thing, from where that is, whatever is below on the stack.
func TestInstructionsThatThrowInMemories(t *testing.T) {
	for at, list := range vmThrows() {
		for _, e := range list {
			for below := range impl.StackMax - len(e.takes) + 1 {
				mustThrowAt(t, e, below, at)
			}
		}
	}
}

// P87, P88: as many calls as there may be, and one fewer: of InsCall, and of InsSend, of which FaultNull is thrown rather than FaultDeep.
func TestTooManyCallsInMemories(t *testing.T) {
	u := hostUnitOf(ins(impl.InsCall, 1), shape(edgeTypes(), inInts, inTwo), 1)
	host := impl.Call{At: hostAt, Locals: edgeLocals()}
	sender := impl.Call{Method: 3, At: 2, Locals: []int{32, 6}}
	for count := 1; count <= impl.FrameMax; count++ {
		for _, known := range []struct {
			calls []impl.Call
			given []int
			fault int
			next  impl.Call
		}{
			{[]impl.Call{host, waiter(), host, waiter()}[:count], []int{1, 5}, impl.FaultDeep, impl.Call{Method: 1, Locals: []int{1, 5}}},
			{[]impl.Call{waiter(), host, waiter(), host}[:count], []int{1, 5}, impl.FaultDeep, impl.Call{Method: 1, Locals: []int{1, 5}}},
			{slices.Repeat([]impl.Call{sender}, count), []int{32, 8}, impl.FaultDeep, impl.Call{Method: 3, Locals: []int{32, 8}}},
			{slices.Repeat([]impl.Call{sender}, count), []int{0, 8}, impl.FaultNull, impl.Call{}},
		} {
			v := edgeVm(t, u)
			v.Calls = known.calls
			v = copyVm(v)
			if lastCall(&v).Method == 1 {
				known.given, known.next = nil, impl.Call{Locals: []int{0, 0, 0}}
			}
			lastCall(&v).Stack = known.given
			want := copyVm(v)
			want.Steps++
			if count == impl.FrameMax || known.fault == impl.FaultNull {
				want.Calls, want.End, want.Out = nil, impl.EndThrown, v.Faults[known.fault-1]
			} else {
				lastCall(&want).Stack = nil
				want.Calls = append(want.Calls, known.next)
			}
			mustVmStepTo(t, "calls", u, v, want)
		}
	}
}

// P87, P88: what is given back is on top of what the call below had, which goes on; it is a word, or leads.
func TestGivenBackInMemories(t *testing.T) {
	u := hostUnitOf(ins(impl.InsBack), shape(edgeTypes(), inWord), 1)
	v := edgeVm(t, u, 44)
	v.Calls = []impl.Call{{Method: 2, At: 1, Locals: []int{32, 6}, Stack: []int{5}}, v.Calls[0]}
	want := copyVm(v)
	want.Steps++
	want.Calls = want.Calls[:1]
	want.Calls[0].At, want.Calls[0].Stack = 2, []int{5, 44}
	mustVmStepTo(t, "a word", u, v, want)
	u = callUnit()
	v = edgeVm(t, u)
	v.Calls = []impl.Call{{At: 6, Locals: []int{0, 0}, Stack: []int{5}}, {Method: 2, At: 1, Locals: []int{9}, Stack: []int{32}}}
	want = copyVm(v)
	want.Steps++
	want.Calls = want.Calls[:1]
	want.Calls[0].At, want.Calls[0].Stack = 7, []int{5, 32}
	mustVmStepTo(t, "what leads", u, v, want)
}
