package tests

import (
	"slices"
	"testing"

	"loop.example/entail/impl"
)

// edgeUnit has the instruction at place 1 of method 0, which has 3 locals. Method 1 is nobody's, given two; 2 is of class 2, and 3 of class 3, below it, both given one by Sel 1.
func edgeUnit(i impl.Ins) impl.Unit {
	u := oneMethod(3, ins(impl.InsPop), i, ins(impl.InsPop))
	called := plainMethod(-1, 0, impl.TypeInts, impl.TypeClass+2)
	called.Locals = 3
	sent := plainMethod(2, 1, impl.TypeInt)
	sent.Locals = 3
	u.Methods = append(u.Methods, called, sent, plainMethod(3, 1, impl.TypeInt))
	return u
}

// edgeThings stand from 8 on: an array of words, one of what leads, and one of each class: class c at 10 + c.
func edgeThings() []impl.Obj {
	return things(thing(impl.ClassInts, word(11), word(12)), thing(impl.ClassRefs, ref(8), ref(0), ref(9)), thing(0), thing(1, word(4)),
		thing(2, ref(8), ref(0)), thing(3, ref(0), ref(13), ref(9)), thing(4, word(9), ref(10), word(-3)))
}

// edgeMach is at place 1 of method 0.
func edgeMach(stack ...impl.Val) impl.Mach {
	m := machOf(edgeThings(), frame(0, 1, vals(word(40), ref(8), word(0)), stack...))
	m.Said, m.Steps = []int{3, -4}, 17
	return m
}

func mustStepTo(t *testing.T, what string, u impl.Unit, m impl.Mach, want impl.Mach) {
	t.Helper()
	if !impl.MachOk(u, m) {
		t.Fatalf("%s: %v of %v is not ok", what, m, u)
	}
	if got := impl.MachStep(u, m); !equalMachs(got, want) {
		t.Fatalf("%s: in %v MachStep of\n%v is\n%v, not\n%v", what, u, m, got, want)
	}
}

// mustBeStuck says that all else is as it was.
func mustBeStuck(t *testing.T, what string, u impl.Unit, m impl.Mach) {
	t.Helper()
	want := copyMach(m)
	want.Steps, want.End = want.Steps+1, impl.EndStuck
	mustStepTo(t, what, u, m, want)
}

// mustThrow says that nobody catches, then that the call itself catches, and that nothing else is done.
func mustThrow(t *testing.T, what string, u impl.Unit, m impl.Mach, n int) {
	t.Helper()
	want := copyMach(m)
	want.Steps++
	caught := copyMach(want)
	want.Frames, want.End, want.Out = nil, impl.EndThrown, ref(n)
	mustStepTo(t, what, u, m, want)
	last := &caught.Frames[len(caught.Frames)-1]
	catcher := copyUnit(u)
	catcher.Methods[last.Method].Catches = []impl.Catch{{From: last.At, To: last.At + 1, At: 2, Class: impl.ClassFail}}
	last.At, last.Stack = 2, refs(n)
	mustStepTo(t, what+", caught", catcher, m, caught)
}

// edge is an instruction, what it takes, what it leaves there, and what else it does, if anything, beside going on at the next place.
type edge struct {
	i     impl.Ins
	takes []impl.Val
	gives []impl.Val
	also  func(m *impl.Mach)
}

func last(m *impl.Mach) *impl.Frame {
	return &m.Frames[len(m.Frames)-1]
}

func goesTo(at int) func(m *impl.Mach) {
	return func(m *impl.Mach) { last(m).At = at }
}

func makes(o impl.Obj) func(m *impl.Mach) {
	return func(m *impl.Mach) { m.Objs = append(m.Objs, o) }
}

func sets(n int, at int, v impl.Val) func(m *impl.Mach) {
	return func(m *impl.Mach) { m.Objs[n-1].Vals[at] = v }
}

func stores(local int, v impl.Val) func(m *impl.Mach) {
	return func(m *impl.Mach) { last(m).Locals[local] = v }
}

// begins leaves the call that calls where it is.
func begins(method int, locals ...impl.Val) func(m *impl.Mach) {
	return func(m *impl.Mach) {
		last(m).At--
		m.Frames = append(m.Frames, frame(method, 0, locals))
	}
}

func ends(v impl.Val) func(m *impl.Mach) {
	return func(m *impl.Mach) { m.Frames, m.End, m.Out = nil, impl.EndDone, v }
}

func says(n int) func(m *impl.Mach) {
	return func(m *impl.Mach) { m.Said = append(m.Said, n) }
}

// wordEdges have to do with no things.
func wordEdges() []edge {
	all := []edge{
		{ins(impl.InsPush, -128), nil, vals(word(-128)), nil},
		{ins(impl.InsPush, 0), nil, vals(word(0)), nil},
		{ins(impl.InsPush, 127), nil, vals(word(127)), nil},
		{ins(impl.InsNull), nil, refs(0), nil},
		{ins(impl.InsLoad, 0), nil, vals(word(40)), nil},
		{ins(impl.InsLoad, 1), nil, refs(8), nil},
		{ins(impl.InsLoad, 2), nil, vals(word(0)), nil},
		{ins(impl.InsStore, 0), vals(word(7)), nil, stores(0, word(7))},
		{ins(impl.InsStore, 2), refs(14), nil, stores(2, ref(14))},
		{ins(impl.InsStore, 1), refs(0), nil, stores(1, ref(0))},
		{ins(impl.InsPop), vals(word(7)), nil, nil},
		{ins(impl.InsPop), refs(9), nil, nil},
		{ins(impl.InsDup), vals(word(7)), vals(word(7), word(7)), nil},
		{ins(impl.InsDup), refs(9), refs(9, 9), nil},
		{ins(impl.InsDup), refs(0), refs(0, 0), nil},
		{ins(impl.InsDo, impl.OpAdd), vals(word(100), word(100)), vals(word(-56)), nil},
		{ins(impl.InsDo, impl.OpSub), vals(word(3), word(5)), vals(word(-2)), nil},
		{ins(impl.InsDo, impl.OpSub), vals(word(-128), word(1)), vals(word(127)), nil},
		{ins(impl.InsDo, impl.OpMul), vals(word(0), word(5)), vals(word(0)), nil},
		{ins(impl.InsDo, impl.OpMul), vals(word(5), word(0)), vals(word(0)), nil},
		{ins(impl.InsDo, impl.OpDiv), vals(word(-7), word(2)), vals(word(-3)), nil},
		{ins(impl.InsDo, impl.OpDiv), vals(word(0), word(3)), vals(word(0)), nil},
		{ins(impl.InsDo, impl.OpDiv), vals(word(-128), word(-1)), vals(word(-128)), nil},
		{ins(impl.InsBack), vals(word(7)), nil, ends(word(7))},
		{ins(impl.InsBack), vals(word(0)), nil, ends(word(0))},
		{ins(impl.InsBack), refs(0), nil, ends(ref(0))},
		{ins(impl.InsBack), refs(12), nil, ends(ref(12))},
		{ins(impl.InsSay), vals(word(5)), nil, says(5)},
		{ins(impl.InsSay), vals(word(-128)), nil, says(-128)},
	}
	for a := range 3 {
		all = append(all,
			edge{ins(impl.InsLess, a), vals(word(-1), word(0)), nil, goesTo(a)},
			edge{ins(impl.InsLess, a), vals(word(-128), word(127)), nil, goesTo(a)},
			edge{ins(impl.InsLess, a), vals(word(0), word(0)), nil, nil},
			edge{ins(impl.InsLess, a), vals(word(1), word(0)), nil, nil},
			edge{ins(impl.InsSame, a), vals(word(9), word(9)), nil, goesTo(a)},
			edge{ins(impl.InsSame, a), vals(word(9), word(8)), nil, nil},
			edge{ins(impl.InsSame, a), vals(word(8), word(9)), nil, nil},
			edge{ins(impl.InsNil, a), refs(0), nil, goesTo(a)},
			edge{ins(impl.InsNil, a), refs(1), nil, nil},
			edge{ins(impl.InsNil, a), refs(14), nil, nil},
			edge{ins(impl.InsGo, a), nil, nil, goesTo(a)})
	}
	return all
}

// thingEdges have to do with things; what is new has the number 15.
func thingEdges() []edge {
	return []edge{
		{ins(impl.InsNew, 0), nil, refs(15), makes(thing(0))},
		{ins(impl.InsNew, 1), nil, refs(15), makes(thing(1, word(0)))},
		{ins(impl.InsNew, 2), nil, refs(15), makes(thing(2, ref(0), ref(0)))},
		{ins(impl.InsNew, 3), nil, refs(15), makes(thing(3, ref(0), ref(0), ref(0)))},
		{ins(impl.InsNew, 4), nil, refs(15), makes(thing(4, word(0), ref(0), word(0)))},
		{ins(impl.InsArr, 0), vals(word(0)), refs(15), makes(thing(-1))},
		{ins(impl.InsArr, 1), vals(word(0)), refs(15), makes(thing(-2))},
		{ins(impl.InsArr, 0), vals(word(2)), refs(15), makes(thing(-1, word(0), word(0)))},
		{ins(impl.InsArr, 1), vals(word(2)), refs(15), makes(thing(-2, ref(0), ref(0)))},
		{ins(impl.InsArr, 0), vals(word(impl.ArrayMax)), refs(15), makes(thing(-1, make([]impl.Val, 6)...))},
		{ins(impl.InsArr, 1), vals(word(impl.ArrayMax)), refs(15), makes(thing(-2, refs(0, 0, 0, 0, 0, 0)...))},
		{ins(impl.InsLen), refs(8), vals(word(2)), nil},
		{ins(impl.InsLen), refs(9), vals(word(3)), nil},
		{ins(impl.InsAt, 0), vals(ref(8), word(0)), vals(word(11)), nil},
		{ins(impl.InsAt, 0), vals(ref(8), word(1)), vals(word(12)), nil},
		{ins(impl.InsAt, 1), vals(ref(9), word(0)), refs(8), nil},
		{ins(impl.InsAt, 1), vals(ref(9), word(1)), refs(0), nil},
		{ins(impl.InsAt, 1), vals(ref(9), word(2)), refs(9), nil},
		{ins(impl.InsSet, 0), vals(ref(8), word(0), word(5)), nil, sets(8, 0, word(5))},
		{ins(impl.InsSet, 0), vals(ref(8), word(1), word(5)), nil, sets(8, 1, word(5))},
		{ins(impl.InsSet, 0), vals(ref(8), word(1), ref(9)), nil, sets(8, 1, ref(9))},
		{ins(impl.InsSet, 1), vals(ref(9), word(2), ref(0)), nil, sets(9, 2, ref(0))},
		{ins(impl.InsSet, 1), vals(ref(9), word(1), ref(14)), nil, sets(9, 1, ref(14))},
		{ins(impl.InsSet, 1), vals(ref(9), word(0), word(3)), nil, sets(9, 0, word(3))},
		{ins(impl.InsGet, 1, 0), refs(3), vals(word(3)), nil},
		{ins(impl.InsGet, 1, 0), refs(14), vals(word(9)), nil},
		{ins(impl.InsGet, 4, 2), refs(14), vals(word(-3)), nil},
		{ins(impl.InsGet, 2, 0), refs(12), refs(8), nil},
		{ins(impl.InsGet, 2, 1), refs(13), refs(13), nil},
		{ins(impl.InsGet, 3, 2), refs(13), refs(9), nil},
		{ins(impl.InsPut, 1, 0), vals(ref(3), word(70)), nil, sets(3, 0, word(70))},
		{ins(impl.InsPut, 1, 0), vals(ref(14), word(70)), nil, sets(14, 0, word(70))},
		{ins(impl.InsPut, 1, 0), vals(ref(11), ref(8)), nil, sets(11, 0, ref(8))},
		{ins(impl.InsPut, 2, 1), vals(ref(13), ref(0)), nil, sets(13, 1, ref(0))},
		{ins(impl.InsPut, 3, 2), vals(ref(13), word(1)), nil, sets(13, 2, word(1))},
		{ins(impl.InsCast, 3), refs(0), refs(0), nil},
		{ins(impl.InsCast, 2), refs(12), refs(12), nil},
		{ins(impl.InsCast, 2), refs(13), refs(13), nil},
		{ins(impl.InsCast, 1), refs(7), refs(7), nil},
		{ins(impl.InsCast, 0), refs(8), refs(8), nil},
		{ins(impl.InsCast, 0), refs(9), refs(9), nil},
		{ins(impl.InsCast, 0), refs(10), refs(10), nil},
		{ins(impl.InsCast, 0), refs(14), refs(14), nil},
		{ins(impl.InsCall, 0), nil, nil, begins(0, word(0), word(0), word(0))},
		{ins(impl.InsCall, 1), vals(word(5), ref(12)), nil, begins(1, word(5), ref(12), word(0))},
		{ins(impl.InsCall, 1), vals(ref(0), word(0)), nil, begins(1, ref(0), word(0), word(0))},
		{ins(impl.InsSend, 2, 1), vals(ref(12), word(5)), nil, begins(2, ref(12), word(5), word(0))},
		{ins(impl.InsSend, 2, 1), vals(ref(12), ref(0)), nil, begins(2, ref(12), ref(0), word(0))},
		{ins(impl.InsSend, 2, 1), vals(ref(13), word(5)), nil, begins(3, ref(13), word(5))},
		{ins(impl.InsSend, 3, 1), vals(ref(13), word(5)), nil, begins(3, ref(13), word(5))},
	}
}

// wantsOf is what an instruction of edgeUnit wants of what it takes, by the letters of the table.
func wantsOf(i impl.Ins) string {
	switch {
	case i.Kind == impl.InsCall && i.A == 0:
		return ""
	case i.Kind == impl.InsCall:
		return "xx"
	case i.Kind == impl.InsSend:
		return "rx"
	}
	wants, _ := valueRow(i.Kind)
	return wants
}

// filler is what is below, and stays there.
func filler(count int) []impl.Val {
	return vals(word(101), ref(14), ref(0), word(104))[:count]
}

func mustMeetEdge(t *testing.T, e edge, below int) {
	t.Helper()
	u, m := edgeUnit(e.i), edgeMach(append(filler(below), e.takes...)...)
	if below+len(e.gives) > impl.StackMax {
		mustBeStuck(t, "no room", u, m)
		return
	}
	want := edgeMach(append(filler(below), e.gives...)...)
	want.Steps++
	last(&want).At++
	if e.also != nil {
		e.also(&want)
	}
	mustStepTo(t, "done", u, m, want)
}

// P40, P48, P50 to P55: each instruction is done, however much is below, up to StackMax in all.
func TestInstructionsThatAreDone(t *testing.T) {
	var kinds [impl.InsSay + 1]int
	for _, e := range append(wordEdges(), thingEdges()...) {
		kinds[e.i.Kind]++
		for below := range impl.StackMax - len(e.takes) + 1 {
			mustMeetEdge(t, e, below)
		}
	}
	kinds[impl.InsThrow]++
	if slices.Min(kinds[1:]) == 0 {
		t.Error("one has no edge", kinds)
	}
}

// throws are as edges, and throw the thing of that number.
func throws() map[int][]edge {
	return map[int][]edge{
		impl.FaultDiv: {
			{i: ins(impl.InsDo, impl.OpDiv), takes: vals(word(5), word(0))},
			{i: ins(impl.InsDo, impl.OpDiv), takes: vals(word(0), word(0))},
			{i: ins(impl.InsDo, impl.OpDiv), takes: vals(word(-128), word(0))},
			{i: ins(impl.InsThrow), takes: refs(impl.FaultDiv)},
		},
		impl.FaultNull: {
			{i: ins(impl.InsLen), takes: refs(0)},
			{i: ins(impl.InsAt, 0), takes: vals(ref(0), word(0))},
			{i: ins(impl.InsAt, 1), takes: vals(ref(0), word(-1))},
			{i: ins(impl.InsSet, 0), takes: vals(ref(0), word(7), word(0))},
			{i: ins(impl.InsSet, 1), takes: vals(ref(0), word(0), ref(0))},
			{i: ins(impl.InsGet, 1, 0), takes: refs(0)},
			{i: ins(impl.InsGet, 3, 2), takes: refs(0)},
			{i: ins(impl.InsPut, 1, 0), takes: vals(ref(0), word(0))},
			{i: ins(impl.InsPut, 2, 1), takes: vals(ref(0), ref(12))},
			{i: ins(impl.InsSend, 2, 1), takes: vals(ref(0), word(0))},
			{i: ins(impl.InsSend, 3, 1), takes: vals(ref(0), ref(0))},
			{i: ins(impl.InsThrow), takes: refs(0)},
			{i: ins(impl.InsThrow), takes: refs(impl.FaultNull)},
		},
		impl.FaultPlace: {
			{i: ins(impl.InsAt, 0), takes: vals(ref(8), word(-1))},
			{i: ins(impl.InsAt, 0), takes: vals(ref(8), word(2))},
			{i: ins(impl.InsAt, 0), takes: vals(ref(8), word(127))},
			{i: ins(impl.InsAt, 1), takes: vals(ref(9), word(-128))},
			{i: ins(impl.InsAt, 1), takes: vals(ref(9), word(3))},
			{i: ins(impl.InsSet, 0), takes: vals(ref(8), word(-1), word(0))},
			{i: ins(impl.InsSet, 0), takes: vals(ref(8), word(2), word(0))},
			{i: ins(impl.InsSet, 1), takes: vals(ref(9), word(-1), ref(0))},
			{i: ins(impl.InsSet, 1), takes: vals(ref(9), word(3), ref(9))},
			{i: ins(impl.InsThrow), takes: refs(impl.FaultPlace)},
		},
		impl.FaultSize: {
			{i: ins(impl.InsArr, 0), takes: vals(word(-1))},
			{i: ins(impl.InsArr, 0), takes: vals(word(-128))},
			{i: ins(impl.InsArr, 0), takes: vals(word(impl.ArrayMax + 1))},
			{i: ins(impl.InsArr, 1), takes: vals(word(-1))},
			{i: ins(impl.InsArr, 1), takes: vals(word(impl.ArrayMax + 1))},
			{i: ins(impl.InsArr, 1), takes: vals(word(127))},
		},
		impl.FaultCast: {
			{i: ins(impl.InsCast, 1), takes: refs(8)},
			{i: ins(impl.InsCast, 2), takes: refs(9)},
			{i: ins(impl.InsCast, 1), takes: refs(10)},
			{i: ins(impl.InsCast, 2), takes: refs(11)},
			{i: ins(impl.InsCast, 3), takes: refs(12)},
			{i: ins(impl.InsCast, 4), takes: refs(11)},
			{i: ins(impl.InsCast, 1), takes: refs(13)},
			{i: ins(impl.InsCast, 3), takes: refs(14)},
		},
		impl.FaultRoom: {{i: ins(impl.InsThrow), takes: refs(impl.FaultRoom)}},
		11:             {{i: ins(impl.InsThrow), takes: refs(11)}},
		14:             {{i: ins(impl.InsThrow), takes: refs(14)}},
	}
}

// P47, P48, P52, P55: what goes wrong throws one thing, whatever is below on the stack.
func TestInstructionsThatThrow(t *testing.T) {
	for n, list := range throws() {
		for _, e := range list {
			for below := range impl.StackMax - len(e.takes) + 1 {
				mustThrow(t, "thrown", edgeUnit(e.i), edgeMach(append(filler(below), e.takes...)...), n)
			}
		}
	}
}

func allEdges() []edge {
	all := append(wordEdges(), thingEdges()...)
	for n := range 15 {
		all = append(all, throws()[n]...)
	}
	return all
}

// P48: what is wanted is not there.
func TestInstructionsWithTooLittleOnTheStack(t *testing.T) {
	for _, e := range allEdges() {
		for from := 1; from <= len(e.takes); from++ {
			mustBeStuck(t, "too little", edgeUnit(e.i), edgeMach(e.takes[from:]...))
		}
	}
}

// P48: a word where something must lead, and what leads where a word must be, also where otherwise something would be thrown.
func TestInstructionsWithTheWrongSortOnTheStack(t *testing.T) {
	for _, e := range allEdges() {
		for k, letter := range wantsOf(e.i) {
			others := map[rune][]impl.Val{'w': refs(0, 1, 8, 14), 'r': vals(word(0), word(1), word(8), word(-1))}[letter]
			for _, other := range others {
				for below := range impl.StackMax - len(e.takes) + 1 {
					stack := append(filler(below), e.takes...)
					stack[below+k] = other
					mustBeStuck(t, "of the wrong sort", edgeUnit(e.i), edgeMach(stack...))
				}
			}
		}
	}
}

// P48: a thing that is no array of that kind, not of the class, or not to be thrown.
func TestInstructionsWithTheWrongThingOnTheStack(t *testing.T) {
	for _, c := range []struct {
		i      impl.Ins
		wrong  []int
		behind []impl.Val
	}{
		{ins(impl.InsLen), []int{1, 7, 10, 11, 12, 13, 14}, nil},
		{ins(impl.InsAt, 0), []int{9, 1, 10, 13}, vals(word(0))},
		{ins(impl.InsAt, 1), []int{8, 1, 10, 13}, vals(word(0))},
		{ins(impl.InsAt, 0), []int{9, 13}, vals(word(-1))},
		{ins(impl.InsAt, 1), []int{8, 13}, vals(word(100))},
		{ins(impl.InsSet, 0), []int{9, 1, 10, 13}, vals(word(0), word(0))},
		{ins(impl.InsSet, 1), []int{8, 1, 10, 13}, vals(word(0), ref(0))},
		{ins(impl.InsSet, 1), []int{8, 13}, vals(word(9), ref(0))},
		{ins(impl.InsGet, 1, 0), []int{8, 9, 10, 12, 13}, nil},
		{ins(impl.InsGet, 2, 0), []int{8, 9, 10, 11, 14, 1}, nil},
		{ins(impl.InsGet, 3, 0), []int{8, 9, 10, 11, 12, 14}, nil},
		{ins(impl.InsGet, 4, 0), []int{8, 9, 10, 11, 12, 13, 7}, nil},
		{ins(impl.InsPut, 1, 0), []int{8, 9, 10, 12, 13}, vals(word(0))},
		{ins(impl.InsPut, 2, 0), []int{8, 9, 10, 11, 14, 1}, refs(0)},
		{ins(impl.InsPut, 3, 2), []int{8, 9, 10, 11, 12, 14}, refs(0)},
		{ins(impl.InsSend, 2, 1), []int{8, 9, 10, 11, 14, 1}, vals(word(0))},
		{ins(impl.InsSend, 3, 1), []int{8, 9, 10, 11, 12, 14}, vals(word(0))},
		{ins(impl.InsThrow), []int{8, 9, 10, 12, 13}, nil},
	} {
		for _, n := range c.wrong {
			m := edgeMach(append(refs(n), c.behind...)...)
			mustBeStuck(t, "the wrong thing", edgeUnit(c.i), m)
			for range impl.FrameMax - 1 {
				m.Frames = slices.Insert(m.Frames, 0, frame(0, 2, make([]impl.Val, 3)))
			}
			mustBeStuck(t, "the wrong thing, with all calls", edgeUnit(c.i), m)
		}
	}
}

// P48: nobody answers what is sent to A, also where the thing's own class does, and where it leads to nothing.
func TestNobodyAnswers(t *testing.T) {
	for _, i := range []impl.Ins{ins(impl.InsSend, 2, 0), ins(impl.InsSend, 3, 2), ins(impl.InsSend, 0, 1), ins(impl.InsSend, 1, 1), ins(impl.InsSend, 4, 0)} {
		for _, stack := range [][]impl.Val{nil, refs(0), refs(13), refs(12), refs(14), vals(ref(13), word(1)), vals(ref(0), word(1)), vals(ref(11), word(1)), filler(4)} {
			mustBeStuck(t, "nobody answers", edgeUnit(i), edgeMach(stack...))
		}
	}
	only := edgeUnit(ins(impl.InsSend, 2, 1))
	only.Methods = slices.Delete(only.Methods, 2, 3)
	mustBeStuck(t, "only one below answers", only, edgeMach(ref(13), word(1)))
}

// P40, P48: the code at its end, of any method, with any stack.
func TestCodeAtItsEnd(t *testing.T) {
	u := edgeUnit(ins(impl.InsPop))
	for method, code := range u.Methods {
		for count := range impl.StackMax + 1 {
			m := edgeMach()
			m.Frames = append(m.Frames, frame(method, len(code.Code), make([]impl.Val, code.Locals), filler(count)...))
			mustBeStuck(t, "at its end", u, m)
			m.Frames = m.Frames[1:]
			mustBeStuck(t, "at its end", u, m)
		}
	}
}

// P50: an instruction, and a jump that goes on, may lead to the end of the code; there it is stuck.
func TestStepsToTheEndOfTheCode(t *testing.T) {
	for _, c := range []struct {
		i     impl.Ins
		stack []impl.Val
	}{{ins(impl.InsPop), refs(1)}, {ins(impl.InsLess, 0), vals(word(1), word(0))}, {ins(impl.InsNil, 1), refs(1)}, {ins(impl.InsSay), vals(word(0))}} {
		u := oneMethod(0, ins(impl.InsPop), c.i)
		m := impl.MachStep(u, machOf(nil, frame(0, 1, nil, c.stack...)))
		if m.End != impl.EndNot || len(m.Frames) != 1 || m.Frames[0].At != 2 || m.Steps != 1 {
			t.Fatalf("behind %v it is %v", c.i, m)
		}
		mustBeStuck(t, "at the end", u, m)
	}
}

// withCalls has so many calls in all, the last being as it was; those below are at their first place.
func withCalls(m impl.Mach, count int) impl.Mach {
	for len(m.Frames) < count {
		m.Frames = slices.Insert(m.Frames, 0, frame(0, 0, make([]impl.Val, 3), word(9)))
	}
	return m
}

// P45, P53: with FrameMax calls none is made, with one fewer one is.
func TestCallsUpToFrameMax(t *testing.T) {
	for _, e := range thingEdges() {
		if e.i.Kind != impl.InsCall && e.i.Kind != impl.InsSend {
			continue
		}
		u := edgeUnit(e.i)
		for count := 1; count < impl.FrameMax; count++ {
			want := withCalls(edgeMach(), count)
			want.Steps++
			last(&want).At++
			e.also(&want)
			mustStepTo(t, "room for a call", u, withCalls(edgeMach(e.takes...), count), want)
		}
		full := withCalls(edgeMach(e.takes...), impl.FrameMax)
		mustThrow(t, "no room for a call", u, full, impl.FaultDeep)
		if len(e.takes) > 0 {
			mustBeStuck(t, "too little, and no room", u, withCalls(edgeMach(e.takes[1:]...), impl.FrameMax))
		}
		if e.i.Kind == impl.InsSend {
			mustThrow(t, "to nothing, and no room", u, withCalls(edgeMach(ref(0), e.takes[1]), impl.FrameMax), impl.FaultNull)
			mustBeStuck(t, "to a word, and no room", u, withCalls(edgeMach(word(1), e.takes[1]), impl.FrameMax))
		}
	}
}

// P45: a call of itself has locals and a stack of its own.
func TestACallOfItself(t *testing.T) {
	u := edgeUnit(ins(impl.InsCall, 0))
	m := edgeMach(filler(4)...)
	for depth := 1; depth < impl.FrameMax; depth++ {
		want := copyMach(m)
		want.Steps++
		want.Frames = append(want.Frames, frame(0, 0, make([]impl.Val, 3)))
		mustStepTo(t, "called", u, m, want)
		m = impl.MachStep(u, m)
		last(&m).At = 1
	}
	mustThrow(t, "too deep", u, m, impl.FaultDeep)
}

// P54: what is given back is on top below, one place on, at any place, and of any sort; all that was left on the last stack goes.
func TestBackToTheCallBelow(t *testing.T) {
	u := edgeUnit(ins(impl.InsBack))
	for _, x := range []impl.Val{word(0), word(-5), ref(0), ref(8), ref(13)} {
		for left := range impl.StackMax {
			for below := range impl.StackMax + 1 {
				for at := range 4 {
					m := edgeMach(append(filler(left), x)...)
					m.Frames = slices.Insert(m.Frames, 0, frame(0, 2, refs(1, 2, 3), word(2)), frame(0, at, refs(4, 5, 6), filler(below)...))
					if below == impl.StackMax || at == 3 {
						mustBeStuck(t, "no place, or no room, below", u, m)
						continue
					}
					want := copyMach(m)
					want.Steps++
					want.Frames = want.Frames[:2]
					want.Frames[1].At++
					want.Frames[1].Stack = append(want.Frames[1].Stack, x)
					mustStepTo(t, "given back", u, m, want)
				}
			}
		}
	}
}

// P48: a call may be made with a full stack; when something is given back there is no room for it.
func TestACallFromAFullStack(t *testing.T) {
	u := impl.Unit{Classes: knownClasses(), Methods: []impl.Method{
		withCode(plainMethod(-1, 0), ins(impl.InsPush, 1), ins(impl.InsPush, 2), ins(impl.InsPush, 3), ins(impl.InsPush, 4), ins(impl.InsCall, 1), ins(impl.InsBack)), plainMethod(-1, 0)}}
	m := impl.MachRun(u, 6)
	want := machOf(nil, frame(0, 4, nil, word(1), word(2), word(3), word(4)), frame(1, 1, nil, word(0)))
	want.Steps = 6
	if !equalMachs(m, want) {
		t.Fatalf("it is %v, not %v", m, want)
	}
	mustBeStuck(t, "no room below", u, m)
}
