package tests

import (
	"math"
	"slices"
	"testing"

	"loop.example/entail/impl"
)

// stepUnit has the one instruction at place 1 of each method: nobody's with 3 locals and a word back; nobody's, given 3 and 10, with 12 back; of class 2, given a word, with 4 back; of class 1, with 11 back.
func stepUnit(i impl.Ins) impl.Unit {
	code := []impl.Ins{ins(impl.InsPop), i, ins(impl.InsPop)}
	first := withCode(plainMethod(-1, 0), slices.Clone(code)...)
	first.Locals = 3
	called := withOut(withCode(plainMethod(-1, 0, 3, 10), slices.Clone(code)...), 12)
	called.Locals = 3
	sent := withOut(withCode(plainMethod(2, 1, 1), slices.Clone(code)...), 4)
	sent.Locals = 3
	other := withOut(withCode(plainMethod(1, 0), slices.Clone(code)...), 11)
	other.Locals = 3
	return impl.Unit{Classes: knownClasses(), Methods: []impl.Method{first, called, sent, other}}
}

func mustStep(t *testing.T, u impl.Unit, m int, at int, s impl.Shape, want impl.Shape) {
	t.Helper()
	got, ok := impl.PassStep(u, m, at, s)
	if ok != want.Any || !equalShapes(got, want) {
		t.Fatalf("%v of method %d in %v: PassStep of %v is %v, %v, not %v", u.Methods[m].Code[at], m, u.Classes, s, got, ok, want)
	}
}

func mustNotStep(t *testing.T, u impl.Unit, m int, at int, s impl.Shape) {
	t.Helper()
	got, ok := impl.PassStep(u, m, at, s)
	if ok || !isNothing(got) {
		t.Fatalf("PassStep(%v, %d, %d, %v) is %v, %v", u, m, at, s, got, ok)
	}
}

// knownStep is an instruction of method m, what it wants on the stack, and what it leaves there.
type knownStep struct {
	m     int
	i     impl.Ins
	takes []int
	gives []int
}

// knownSteps are of knownClasses: class 2 has the fields 3 and 11, 3 has 4 behind them, and 4 has 1, 8 and 1.
func knownSteps() []knownStep {
	var none []int
	return []knownStep{
		{0, ins(impl.InsPush, -128), none, []int{1}},
		{0, ins(impl.InsPush, 127), none, []int{1}},
		{0, ins(impl.InsNull), none, []int{2}},
		{0, ins(impl.InsDo, impl.OpAdd), []int{1, 1}, []int{1}},
		{0, ins(impl.InsDo, impl.OpDiv), []int{1, 1}, []int{1}},
		{0, ins(impl.InsLess, 0), []int{1, 1}, none},
		{0, ins(impl.InsSame, 2), []int{1, 1}, none},
		{0, ins(impl.InsNil, 1), []int{8}, none},
		{0, ins(impl.InsGo, 1), none, none},
		{0, ins(impl.InsNew, 0), none, []int{8}},
		{0, ins(impl.InsNew, 1), none, []int{9}},
		{0, ins(impl.InsNew, 4), none, []int{12}},
		{0, ins(impl.InsArr, 0), []int{1}, []int{3}},
		{0, ins(impl.InsArr, 1), []int{1}, []int{4}},
		{0, ins(impl.InsAt, 0), []int{3, 1}, []int{1}},
		{0, ins(impl.InsAt, 1), []int{4, 1}, []int{8}},
		{0, ins(impl.InsSet, 0), []int{3, 1, 1}, none},
		{0, ins(impl.InsSet, 1), []int{4, 1, 8}, none},
		{0, ins(impl.InsGet, 1, 0), []int{9}, []int{1}},
		{0, ins(impl.InsGet, 2, 0), []int{10}, []int{3}},
		{0, ins(impl.InsGet, 2, 1), []int{10}, []int{11}},
		{0, ins(impl.InsGet, 3, 1), []int{11}, []int{11}},
		{0, ins(impl.InsGet, 3, 2), []int{11}, []int{4}},
		{0, ins(impl.InsGet, 4, 1), []int{12}, []int{8}},
		{0, ins(impl.InsPut, 1, 0), []int{9, 1}, none},
		{0, ins(impl.InsPut, 2, 1), []int{10, 11}, none},
		{0, ins(impl.InsPut, 3, 0), []int{11, 3}, none},
		{0, ins(impl.InsPut, 4, 1), []int{12, 8}, none},
		{0, ins(impl.InsPut, 4, 2), []int{12, 1}, none},
		{0, ins(impl.InsCast, 0), []int{8}, []int{8}},
		{0, ins(impl.InsCast, 3), []int{8}, []int{11}},
		{0, ins(impl.InsCall, 0), none, []int{1}},
		{0, ins(impl.InsCall, 1), []int{3, 10}, []int{12}},
		{1, ins(impl.InsCall, 1), []int{3, 10}, []int{12}},
		{2, ins(impl.InsCall, 0), none, []int{1}},
		{0, ins(impl.InsSend, 2, 1), []int{10, 1}, []int{4}},
		{0, ins(impl.InsSend, 3, 1), []int{11, 1}, []int{4}},
		{0, ins(impl.InsSend, 1, 0), []int{9}, []int{11}},
		{3, ins(impl.InsSend, 4, 0), []int{12}, []int{11}},
		{0, ins(impl.InsBack), []int{1}, none},
		{1, ins(impl.InsBack), []int{12}, none},
		{2, ins(impl.InsBack), []int{4}, none},
		{3, ins(impl.InsBack), []int{11}, none},
		{0, ins(impl.InsThrow), []int{9}, none},
		{0, ins(impl.InsSay), []int{1}, none},
	}
}

// P19, P20, P21: each with what it wants, and what stays under that, up to the full stack, and one more.
func TestKnownSteps(t *testing.T) {
	locals := []int{0, 12, 2}
	under := []int{4, 1, 2, 12}
	for _, k := range knownSteps() {
		u := stepUnit(k.i)
		mustUnit(t, "one instruction", u, true)
		for count := range len(under) + 1 {
			s := shape(locals, slices.Concat(under[:count], k.takes)...)
			if len(s.Stack) > impl.StackMax || count+len(k.gives) > impl.StackMax {
				mustNotStep(t, u, k.m, 1, s)
				continue
			}
			mustStep(t, u, k.m, 1, s, shape(locals, slices.Concat(under[:count], k.gives)...))
		}
	}
}

// P19: each with a type that is in what it wants, with one that is not, and with too few.
func TestKnownStepsWithOtherTypes(t *testing.T) {
	in := inByHand(knownClasses())
	locals := []int{0, 0, 0}
	for _, k := range knownSteps() {
		u := stepUnit(k.i)
		for i, want := range k.takes {
			for _, other := range allTypes(knownClasses()) {
				s := shape(locals, slices.Clone(k.takes)...)
				s.Stack[i] = other
				if other != impl.TypeNone && in[other][want] {
					mustStep(t, u, k.m, 1, s, shape(locals, k.gives...))
				} else {
					mustNotStep(t, u, k.m, 1, s)
				}
			}
			mustNotStep(t, u, k.m, 1, shape(locals, k.takes[:i]...))
			mustNotStep(t, u, k.m, 1, shape(locals, k.takes[i+1:]...))
		}
	}
}

// What InsLoad, InsStore, InsPop, InsDup and InsLen leave hangs on the shape.
func TestStepsThatHangOnTheShape(t *testing.T) {
	none := impl.Shape{}
	three := []int{0, 3, 12}
	for _, c := range []struct {
		i    impl.Ins
		s    impl.Shape
		want impl.Shape
	}{
		{ins(impl.InsLoad, 0), shape(three), none},
		{ins(impl.InsLoad, 0), shape([]int{2, 0, 0}), shape([]int{2, 0, 0}, 2)},
		{ins(impl.InsLoad, 1), shape(three), shape(three, 3)},
		{ins(impl.InsLoad, 2), shape(three, 1, 1, 1), shape(three, 1, 1, 1, 12)},
		{ins(impl.InsLoad, 2), shape(three, 1, 1, 1, 1), none},
		{ins(impl.InsLoad, 1), shape([]int{1, 0, 1}, 1), none},
		{ins(impl.InsStore, 0), shape(three), none},
		{ins(impl.InsStore, 0), shape(three, 1), shape([]int{1, 3, 12})},
		{ins(impl.InsStore, 1), shape(three, 1), shape([]int{0, 1, 12})},
		{ins(impl.InsStore, 2), shape(three, 1, 2), shape([]int{0, 3, 2}, 1)},
		{ins(impl.InsStore, 2), shape(three, 8, 8, 8, 9), shape([]int{0, 3, 9}, 8, 8, 8)},
		{ins(impl.InsStore, 2), shape(three, 12), shape(three)},
		{ins(impl.InsPop), shape(three), none},
		{ins(impl.InsPop), shape(three, 2), shape(three)},
		{ins(impl.InsPop), shape(three, 1, 4, 10, 11), shape(three, 1, 4, 10)},
		{ins(impl.InsDup), shape(three), none},
		{ins(impl.InsDup), shape(three, 2), shape(three, 2, 2)},
		{ins(impl.InsDup), shape(three, 1, 4, 10), shape(three, 1, 4, 10, 10)},
		{ins(impl.InsDup), shape(three, 1, 4, 10, 11), none},
		{ins(impl.InsLen), shape(three), none},
		{ins(impl.InsLen), shape(three, 3), shape(three, 1)},
		{ins(impl.InsLen), shape(three, 4), shape(three, 1)},
		{ins(impl.InsLen), shape(three, 2), shape(three, 1)},
		{ins(impl.InsLen), shape(three, 8), none},
		{ins(impl.InsLen), shape(three, 9), none},
		{ins(impl.InsLen), shape(three, 1), none},
		{ins(impl.InsLen), shape(three, 3, 1), none},
		{ins(impl.InsLen), shape(three, 3, 3, 3, 4), shape(three, 3, 3, 3, 1)},
	} {
		u := stepUnit(c.i)
		for m := range u.Methods {
			mustStep(t, u, m, 1, c.s, c.want)
		}
	}
}

// A call of what is not there: a Sel that no class on the way up has, also if one below has it, and a method that is none, or is somebody's, so that the unit is not ok.
func TestStepsThatCallWhatIsNotThere(t *testing.T) {
	for _, i := range []impl.Ins{ins(impl.InsSend, 0, 0), ins(impl.InsSend, 0, 1), ins(impl.InsSend, 1, 1), ins(impl.InsSend, 2, 0), ins(impl.InsSend, 2, 2), ins(impl.InsSend, 3, 0), ins(impl.InsSend, 4, 2),
		ins(impl.InsCall, 2), ins(impl.InsCall, 3), ins(impl.InsCall, 4), ins(impl.InsCall, -1), ins(impl.InsSend, 2, 3), ins(impl.InsSend, 5, 1), ins(impl.InsSend, -1, 1)} {
		for _, stack := range [][]int{nil, {2}, {2, 1}, {8, 1}, {1, 8 + max(0, i.A), 1}, {8 + max(0, i.A)}, {9, 10, 11, 12}} {
			mustNotStep(t, stepUnit(i), 0, 1, shape([]int{0, 0, 0}, stack...))
		}
	}
}

// wideUnit has fields of several types, and methods to call and to send to, also from above.
func wideUnit(super int) impl.Unit {
	cs := withClass(twoClasses(), super, []int{impl.TypeRefs, impl.TypeClass + 2})
	first := withPops(plainMethod(-1, 0), 2)
	first.Locals = 1
	called := withOut(plainMethod(-1, 0, impl.TypeClass+super, impl.TypeInt), impl.TypeInts)
	return impl.Unit{Classes: cs, Methods: []impl.Method{first, called, withOut(plainMethod(2, 0, impl.TypeClass), impl.TypeClass+2), plainMethod(1, 1)}}
}

// eachStep goes by all instructions at the first place of a wideUnit, with all shapes of a local and up to three on the stack, some of which are full.
func eachStep(visit func(h hand, i impl.Ins, s impl.Shape)) {
	for super := range 2 {
		h := handOf(wideUnit(super))
		var shapes []impl.Shape
		for stack := range 3 {
			shapes = append(shapes, everyShape(h.u.Classes, 1, stack)...)
		}
		for _, s := range everyShape(h.u.Classes, 0, 3) {
			shapes = append(shapes, shape([]int{s.Stack[1]}, s.Stack...), shape([]int{0}, append([]int{2}, s.Stack...)...))
		}
		for _, list := range instructionList(h.u, h.u.Methods[0]) {
			for _, i := range list {
				h.u.Methods[0].Code[0] = i
				for _, s := range shapes {
					visit(h, i, s)
				}
			}
		}
	}
}

// P19, P20, P21.
func TestStepsByHand(t *testing.T) {
	eachStep(func(h hand, i impl.Ins, s impl.Shape) {
		want, _ := h.step(h.u.Methods[0], i, s)
		mustStep(t, h.u, 0, 0, s, want)
	})
}

// P20, P21, by their own words.
func TestStepsLeaveShapesThatAreOk(t *testing.T) {
	stored := 0
	eachStep(func(h hand, i impl.Ins, s impl.Shape) {
		behind, ok := impl.PassStep(h.u, 0, 0, s)
		if !ok {
			return
		}
		more := len(behind.Stack) - len(s.Stack)
		if !behind.Any || !impl.ShapeOk(h.u.Classes, 1, behind) || len(behind.Locals) != 1 || more > 3 || more < -3 {
			t.Fatalf("%v in %v: what is left of %v is %v", i, h.u, s, behind)
		}
		want := s.Locals[0]
		if i.Kind == impl.InsStore {
			want = s.Stack[len(s.Stack)-1]
			stored++
		}
		if behind.Locals[0] != want {
			t.Fatalf("%v in %v: of %v the local is %v", i, h.u, s, behind)
		}
	})
	if stored == 0 {
		t.Error("nothing was stored")
	}
}

// lowerShapes are those that differ by one type, which is in that of the shape.
func (h hand) lowerShapes(s impl.Shape) []impl.Shape {
	var all []impl.Shape
	for place := range len(s.Locals) + len(s.Stack) {
		for _, low := range allTypes(h.u.Classes) {
			lower := copyOfShape(s)
			list, k := lower.Locals, place
			if place >= len(s.Locals) {
				list, k = lower.Stack, place-len(s.Locals)
			}
			if low != list[k] && h.in[low][list[k]] {
				list[k] = low
				all = append(all, lower)
			}
		}
	}
	return all
}

// P19, by its own words; one type at a time is enough, for what is in what is in a third is in that.
func TestStepsOfLowerShapes(t *testing.T) {
	lower := 0
	eachStep(func(h hand, i impl.Ins, s impl.Shape) {
		above, ok := impl.PassStep(h.u, 0, 0, s)
		if !ok {
			return
		}
		for _, low := range h.lowerShapes(s) {
			below, ok := impl.PassStep(h.u, 0, 0, low)
			if !ok || !impl.ShapeIn(h.u.Classes, below, above) {
				t.Fatalf("%v in %v: %v leaves %v, but %v leaves %v", i, h.u, s, above, low, below)
			}
			lower++
		}
	})
	if lower < 1000 {
		t.Error("too few are lower", lower)
	}
}

// PassStep is the same whatever is told, and at each place of each method.
func TestStepsOfGrownUnits(t *testing.T) {
	d := &dice{state: 5}
	yes := 0
	for _, u := range grownUnits(2, 150) {
		h := handOf(u)
		for k, m := range u.Methods {
			shapes := slices.DeleteFunc(slices.Clone(m.Shapes), func(s impl.Shape) bool { return !s.Any })
			for at, i := range m.Code {
				shapes = append(shapes, d.someShape(u.Classes, m.Locals, d.roll(impl.StackMax+1)))
				for _, s := range shapes {
					want, ok := h.step(m, i, s)
					mustStep(t, u, k, at, s, want)
					if ok {
						yes++
					}
				}
			}
		}
	}
	if yes < 1000 {
		t.Error("too few steps", yes)
	}
}

// Wrong inputs: a shape that is nothing, not ok, or of other locals; no such place, method, or ok unit.
func TestStepsThatAreNot(t *testing.T) {
	for kind := impl.InsPush; kind <= impl.InsSay; kind++ {
		u := stepUnit(ins(kind))
		if kind == impl.InsDo {
			u = stepUnit(ins(kind, 1))
		}
		if kind == impl.InsGet || kind == impl.InsPut {
			u = stepUnit(ins(kind, 2))
		}
		mustUnit(t, "one instruction", u, true)
		for m := range u.Methods {
			for _, s := range wrongShapes(u.Classes) {
				mustNotStep(t, u, m, 1, s)
				s.Locals = []int{1, 1, 1}
				if !shapeOkByHand(u.Classes, 3, s) {
					mustNotStep(t, u, m, 1, s)
				}
			}
			for _, locals := range [][]int{nil, {1}, {1, 1}, {1, 1, 1, 1}} {
				for _, stack := range [][]int{nil, {1}, {1, 1}, {2}, {9}, {10, 3}, {3, 1}} {
					mustNotStep(t, u, m, 1, shape(locals, stack...))
				}
			}
		}
	}
}

func TestStepsAtPlacesThatAreNot(t *testing.T) {
	u := stepUnit(ins(impl.InsPush))
	s := shape([]int{1, 1, 1}, 1)
	for _, n := range []int{math.MinInt, math.MinInt + 1, -256, -4, -3, -2, -1, 3, 4, 5, 12, 13, 256, 1 << 32, 1<<32 + 1, math.MaxInt - 1, math.MaxInt} {
		for m := range u.Methods {
			mustNotStep(t, u, m, n, s)
		}
		if n != 3 {
			mustNotStep(t, u, n, 0, s)
			mustNotStep(t, u, n, 1, s)
			mustNotStep(t, u, n, n, s)
		}
	}
	for _, bad := range unitsThatAreNotOk() {
		for m := -1; m <= len(bad.Methods); m++ {
			for at := -1; at <= 3; at++ {
				mustNotStep(t, bad, m, at, s)
				mustNotStep(t, bad, m, at, shape(nil, 1))
				mustNotStep(t, bad, m, at, impl.Shape{})
			}
		}
	}
}

// unitsThatAreNotOk are each not in one way, while the method of place 0 would be passed.
func unitsThatAreNotOk() []impl.Unit {
	all := []impl.Unit{{}, {Classes: knownClasses()}, {Methods: unitOf(nil).Methods}}
	for _, cs := range spoiltClasses() {
		all = append(all, unitOf(cs))
	}
	for _, spoil := range []func(m *impl.Method){
		func(m *impl.Method) { m.Class = impl.ClassRoot },
		func(m *impl.Method) { m.Class = len(knownClasses()) },
		func(m *impl.Method) { m.Class = math.MaxInt },
		func(m *impl.Method) { m.Class = math.MinInt },
		func(m *impl.Method) { m.Sel = -1 },
		func(m *impl.Method) { m.Out = impl.TypeNull },
		func(m *impl.Method) { m.Out = math.MaxInt },
		func(m *impl.Method) { m.Args = []int{impl.TypeNone} },
		func(m *impl.Method) { m.Args = []int{1, 1, 1} },
		func(m *impl.Method) { m.Locals = 0 },
		func(m *impl.Method) { m.Locals = -1 },
		func(m *impl.Method) { m.Locals = impl.LocalMax + 1 },
		func(m *impl.Method) { m.Locals = math.MaxInt },
		func(m *impl.Method) { m.Locals = math.MinInt },
		func(m *impl.Method) { m.Code = nil },
		func(m *impl.Method) { m.Code[0].Kind = 0 },
		func(m *impl.Method) { m.Code[0] = ins(impl.InsGo, 2) },
		func(m *impl.Method) { m.Code[0] = ins(impl.InsLoad, 1) },
		func(m *impl.Method) { m.Code[0] = ins(impl.InsGet, math.MinInt, math.MaxInt) },
		func(m *impl.Method) { m.Code[0] = ins(impl.InsCall, math.MaxInt) },
		func(m *impl.Method) { m.Code[0] = ins(impl.InsSend, math.MaxInt, 0) },
		func(m *impl.Method) { m.Shapes = nil },
		func(m *impl.Method) { m.Shapes = make([]impl.Shape, 3) },
		func(m *impl.Method) { m.Shapes[1] = shape(nil) },
		func(m *impl.Method) { m.Shapes[1] = impl.Shape{Stack: []int{1}} },
		func(m *impl.Method) { m.Catches = []impl.Catch{{From: 0, To: 3, At: 0, Class: 1}} },
		func(m *impl.Method) { m.Catches = []impl.Catch{{From: 0, To: math.MaxInt, At: math.MinInt, Class: 1}} },
		func(m *impl.Method) { m.Catches = []impl.Catch{{From: 0, To: 2, At: 0, Class: 2}} },
		func(m *impl.Method) { m.Catches = make([]impl.Catch, impl.CatchMax+1) },
	} {
		u := unitOf(knownClasses(), plainMethod(3, 1))
		spoil(&u.Methods[1])
		all = append(all, u)
	}
	long := withPops(plainMethod(-1, 0), impl.CodeMax+1)
	many := slices.Repeat([]impl.Method{plainMethod(-1, 0)}, impl.MethodMax)
	return append(all, unitOf(knownClasses(), long), unitOf(knownClasses(), many...), unitOf(knownClasses(), plainMethod(2, 0), plainMethod(2, 0)), unitOf(knownClasses(), plainMethod(2, 0), plainMethod(3, 0, 1)))
}
