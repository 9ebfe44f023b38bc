package tests

import (
	"math"
	"slices"
	"testing"

	"loop.example/entail/impl"
)

func mustPass(t *testing.T, what string, u impl.Unit, m int, want []impl.Shape) {
	t.Helper()
	got, ok := impl.PassShapes(u, m)
	if ok != (want != nil) || !equalLists(got, want) {
		t.Fatalf("%s: PassShapes(%v, %d) is %v, %v, not %v", what, u, m, got, ok, want)
	}
}

func mustUnitPass(t *testing.T, what string, u impl.Unit, want bool) {
	t.Helper()
	if impl.UnitPass(u) != want {
		t.Fatalf("%s: UnitPass(%v) is not %v", what, u, want)
	}
}

// oneMethod is a unit of knownClasses with one method.
func oneMethod(locals int, code ...impl.Ins) impl.Unit {
	u := impl.Unit{Classes: knownClasses(), Methods: []impl.Method{withCode(plainMethod(-1, 0), code...)}}
	u.Methods[0].Locals = locals
	return u
}

func tell(u impl.Unit, at int, s impl.Shape) impl.Unit {
	u = copyUnit(u)
	u.Methods[0].Shapes[at] = s
	return u
}

func catching(u impl.Unit, catches ...impl.Catch) impl.Unit {
	u = copyUnit(u)
	u.Methods[0].Catches = catches
	return u
}

// P22.
func TestKnownStarts(t *testing.T) {
	for _, c := range []struct {
		class  int
		args   []int
		locals int
		want   []int
	}{
		{-1, nil, 0, nil}, {-1, nil, 3, []int{0, 0, 0}}, {-1, []int{1}, 1, []int{1}}, {-1, []int{4, 11}, 2, []int{4, 11}}, {-1, []int{8, 3}, 3, []int{8, 3, 0}},
		{1, nil, 1, []int{9}}, {3, nil, 3, []int{11, 0, 0}}, {4, []int{1}, 2, []int{12, 1}}, {4, []int{9}, 3, []int{12, 9, 0}}, {2, []int{10, 3}, 3, []int{10, 10, 3}},
	} {
		m := plainMethod(c.class, 0, c.args...)
		m.Locals = c.locals
		if s := impl.ShapeStart(unitOf(knownClasses(), m), 1); !equalShapes(s, shape(c.want)) {
			t.Errorf("%v begins with %v, not %v", m, s, c.want)
		}
	}
}

// P22, by its own words.
func TestStartsAreOk(t *testing.T) {
	for _, u := range slices.Concat(someUnits(), grownUnits(3, 100)) {
		for k, m := range u.Methods {
			s := impl.ShapeStart(u, k)
			if !s.Any || !impl.ShapeOk(u.Classes, m.Locals, s) || len(s.Stack) != 0 || !equalShapes(s, handOf(u).start(m)) {
				t.Fatalf("ShapeStart(%v, %d) is %v", u, k, s)
			}
			all, ok := impl.PassShapes(u, k)
			if ok && !impl.ShapeIn(u.Classes, s, all[0]) || ok && !m.Shapes[0].Any && !equalShapes(s, all[0]) {
				t.Fatalf("%v, %d begins with %v", u, k, all[0])
			}
		}
	}
}

func mustBeNothing(t *testing.T, u impl.Unit, m int) {
	t.Helper()
	if s := impl.ShapeStart(u, m); !isNothing(s) {
		t.Fatalf("ShapeStart(%v, %d) is %v", u, m, s)
	}
	mustPass(t, "nothing", u, m, nil)
	if all := impl.PassInfer(u, m); len(all) != 0 {
		t.Fatalf("PassInfer(%v, %d) is %v", u, m, all)
	}
}

// Wrong inputs: no such method, or a unit that is not ok, whichever of its methods is asked.
func TestNothingOfWhatIsNotThere(t *testing.T) {
	for _, u := range someUnits() {
		for _, m := range []int{math.MinInt, math.MinInt + 1, -256, -2, -1, len(u.Methods), len(u.Methods) + 1, 256, 1 << 32, 1<<32 + 1, math.MaxInt - 1, math.MaxInt} {
			mustBeNothing(t, u, m)
		}
	}
	for _, u := range unitsThatAreNotOk() {
		mustUnitPass(t, "not ok", u, false)
		for _, m := range []int{math.MinInt, -1, 0, 1, 2, 3, 4, math.MaxInt} {
			mustBeNothing(t, u, m)
		}
	}
}

// knownPass is a unit, and the shapes of the places of its first method, or nothing, if that is not passed.
type knownPass struct {
	what string
	u    impl.Unit
	want []impl.Shape
}

func mustPassAll(t *testing.T, all []knownPass) {
	t.Helper()
	for _, k := range all {
		mustUnit(t, k.what, k.u, true)
		mustPass(t, k.what, k.u, 0, k.want)
		mustUnitPass(t, k.what, k.u, k.want != nil)
	}
}

// P22, P23, P24: one place behind the other.
func TestKnownPassStraight(t *testing.T) {
	e := shape(nil)
	word := oneMethod(0, ins(impl.InsPush, 5), ins(impl.InsBack))
	local := oneMethod(1, ins(impl.InsPush), ins(impl.InsStore), ins(impl.InsLoad), ins(impl.InsBack))
	thing := oneMethod(0, ins(impl.InsNew, 3), ins(impl.InsPop), ins(impl.InsPush), ins(impl.InsBack))
	mustPassAll(t, []knownPass{
		{"a word", word, []impl.Shape{e, shape(nil, 1)}},
		{"nothing on the stack", oneMethod(0, ins(impl.InsBack)), nil},
		{"what leads to nothing is no word", oneMethod(0, ins(impl.InsNull), ins(impl.InsBack)), nil},
		{"the last place leads on", oneMethod(0, ins(impl.InsPush)), nil},
		{"the last place leads on", oneMethod(0, ins(impl.InsPush), ins(impl.InsPop)), nil},
		{"the last place says", oneMethod(0, ins(impl.InsPush), ins(impl.InsSay)), nil},
		{"thrown", oneMethod(0, ins(impl.InsNew, 4), ins(impl.InsThrow)), []impl.Shape{e, shape(nil, 12)}},
		{"nothing is thrown", oneMethod(0, ins(impl.InsNull), ins(impl.InsThrow)), []impl.Shape{e, shape(nil, 2)}},
		{"no such is thrown", oneMethod(0, ins(impl.InsNew, 3), ins(impl.InsThrow)), nil},
		{"stored, then loaded", local, []impl.Shape{shape([]int{0}), shape([]int{0}, 1), shape([]int{1}), shape([]int{1}, 1)}},
		{"loaded ahead of what is stored", oneMethod(1, ins(impl.InsLoad), ins(impl.InsBack)), nil},
		{"told as it is", tell(word, 1, shape(nil, 1)), []impl.Shape{e, shape(nil, 1)}},
		{"told at the first place", tell(word, 0, e), []impl.Shape{e, shape(nil, 1)}},
		{"told with less on the stack", tell(word, 1, e), nil},
		{"told with more on the stack", tell(word, 1, shape(nil, 1, 1)), nil},
		{"told at the first place with something", tell(word, 0, shape(nil, 1)), nil},
		{"told as another", tell(word, 1, shape(nil, 2)), nil},
		{"told of a class above", tell(thing, 1, shape(nil, 10)), []impl.Shape{e, shape(nil, 10), e, shape(nil, 1)}},
		{"told of a class beside", tell(thing, 1, shape(nil, 9)), nil},
		{"told of the least, which it is not", tell(thing, 1, shape(nil, 2)), nil},
		{"the local is told away", tell(local, 2, shape([]int{0})), nil},
		{"the local is told away behind", tell(local, 3, shape([]int{0}, 1)), []impl.Shape{shape([]int{0}), shape([]int{0}, 1), shape([]int{1}), shape([]int{0}, 1)}},
		{"the first local is told to be a word", tell(local, 0, shape([]int{1})), nil},
		{"the first local is told to be none", tell(local, 0, shape([]int{0})), []impl.Shape{shape([]int{0}), shape([]int{0}, 1), shape([]int{1}), shape([]int{1}, 1)}},
	})
}

// P23, P24: jumps ahead, back, and to the place itself, told and not.
func TestKnownPassJumps(t *testing.T) {
	e, w := shape(nil), shape(nil, 1)
	own := oneMethod(0, ins(impl.InsGo))
	back := oneMethod(0, ins(impl.InsPush), ins(impl.InsPop), ins(impl.InsGo))
	ahead := oneMethod(0, ins(impl.InsPush), ins(impl.InsGo, 3), ins(impl.InsGo, 3), ins(impl.InsBack))
	both := tell(tell(ahead, 2, w), 3, w)
	less := oneMethod(0, ins(impl.InsPush), ins(impl.InsPush), ins(impl.InsLess, 5), ins(impl.InsPush), ins(impl.InsBack), ins(impl.InsPush), ins(impl.InsBack))
	loop := oneMethod(1, ins(impl.InsNull), ins(impl.InsNil, 0), ins(impl.InsPush), ins(impl.InsBack))
	mustPassAll(t, []knownPass{
		{"to itself, told", tell(own, 0, e), []impl.Shape{e}},
		{"to itself, not told", own, nil},
		{"to itself, told with too much", tell(own, 0, w), nil},
		{"back, told", tell(back, 0, e), []impl.Shape{e, w, e}},
		{"back, not told", back, nil},
		{"back, told elsewhere", tell(tell(back, 1, w), 2, e), nil},
		{"back into the middle", tell(oneMethod(0, ins(impl.InsPush), ins(impl.InsPop), ins(impl.InsGo, 1)), 1, w), nil},
		{"ahead, told", both, []impl.Shape{e, w, w, w}},
		{"ahead, not told", tell(ahead, 2, w), nil},
		{"behind InsGo, not told", tell(ahead, 3, w), nil},
		{"ahead, neither told", ahead, nil},
		{"ahead, told as another", tell(both, 3, shape(nil, 2)), nil},
		{"behind InsGo, told as another", tell(both, 2, e), nil},
		{"two ways, told", tell(less, 5, e), []impl.Shape{e, w, shape(nil, 1, 1), e, w, e, w}},
		{"two ways, not told", less, nil},
		{"two ways, told with what was taken", tell(less, 5, shape(nil, 1, 1)), nil},
		{"a loop, told", tell(loop, 0, shape([]int{0})), []impl.Shape{shape([]int{0}), shape([]int{0}, 2), shape([]int{0}), shape([]int{0}, 1)}},
		{"a loop, not told", loop, nil},
		{"what goes on behind the end, too", tell(oneMethod(0, ins(impl.InsNull), ins(impl.InsNil, 0)), 0, e), nil},
		{"to the next place, told", tell(oneMethod(0, ins(impl.InsGo, 1), ins(impl.InsGo, 1)), 1, e), []impl.Shape{e, e}},
		{"to the next place, not told", oneMethod(0, ins(impl.InsGo, 1), ins(impl.InsGo, 1)), nil},
	})
}

// P23: behind what leads nowhere a shape must be told, which nothing needs to be in; what stands there is asked all the same.
func TestKnownPassWhereOneNeverComes(t *testing.T) {
	e, w := shape(nil), shape(nil, 1)
	for _, first := range [][]impl.Ins{{ins(impl.InsPush), ins(impl.InsBack)}, {ins(impl.InsNew, 1), ins(impl.InsThrow)}, {ins(impl.InsNull), ins(impl.InsThrow)}} {
		u := oneMethod(0, slices.Concat(first, []impl.Ins{ins(impl.InsSay), ins(impl.InsPush), ins(impl.InsBack)})...)
		ahead := []impl.Shape{e, w}
		if first[1].Kind == impl.InsThrow {
			ahead[1] = shape(nil, map[int]int{impl.InsNew: 9, impl.InsNull: 2}[first[0].Kind])
		}
		mustPassAll(t, []knownPass{
			{"not told", u, nil},
			{"told at the place behind only", tell(u, 3, e), nil},
			{"told", tell(u, 2, w), slices.Concat(ahead, []impl.Shape{w, e, w})},
			{"told with more", tell(u, 2, shape(nil, 12, 1)), slices.Concat(ahead, []impl.Shape{shape(nil, 12, 1), shape(nil, 12), shape(nil, 12, 1)})},
			{"told with less than is taken", tell(u, 2, e), nil},
			{"told as another", tell(u, 2, shape(nil, 2)), nil},
			{"told there, and wrong behind", tell(tell(u, 2, w), 3, w), nil},
		})
	}
}

// P25: which locals are asked where something is caught, and at which places.
func TestKnownPassCatches(t *testing.T) {
	u := oneMethod(1, ins(impl.InsPush), ins(impl.InsStore), ins(impl.InsPush), ins(impl.InsBack), ins(impl.InsPop), ins(impl.InsPush), ins(impl.InsBack))
	none, word := []int{0}, []int{1}
	rows := func(locals []int, caught int) []impl.Shape {
		return []impl.Shape{shape(none), shape(none, 1), shape(word), shape(word, 1), shape(locals, caught), shape(locals), shape(locals, 1)}
	}
	for from := range 7 {
		for to := from + 1; to <= 7; to++ {
			for class := range 2 {
				c := impl.Catch{From: from, To: to, At: 4, Class: 1 + 3*class}
				u := catching(u, c)
				early := from <= 1
				mustPassAll(t, []knownPass{
					{"not told", u, nil},
					{"told at another place", tell(u, 5, shape(none)), nil},
					{"the local has no type", tell(u, 4, shape(none, 9)), rows(none, 9)},
					{"what is caught is of the root", tell(u, 4, shape(none, 8)), rows(none, 8)},
				})
				for told, ok := range map[int]bool{1: !early, 2: from >= 4, 3: from >= 4} {
					want := rows([]int{told}, 9)
					if !ok {
						want = nil
					}
					mustPass(t, "the local is told", tell(u, 4, shape([]int{told}, 9)), 0, want)
				}
				for told, ok := range map[int]bool{12: class == 1, 10: false, 2: false, 1: false, 3: false} {
					want := rows(none, told)
					if !ok {
						want = nil
					}
					mustPass(t, "what is caught is told", tell(u, 4, shape(none, told)), 0, want)
				}
				mustPass(t, "an empty stack is told", tell(u, 4, shape(none)), 0, nil)
				mustPass(t, "two on the stack are told", tell(u, 4, shape(none, 9, 9)), 0, nil)
			}
		}
	}
}

// P25: two catches are asked both; and what is caught at the first place, at its own, or where one comes from ahead.
func TestKnownPassMoreCatches(t *testing.T) {
	none := []int{0}
	u := tell(tell(oneMethod(1, ins(impl.InsPush), ins(impl.InsBack), ins(impl.InsThrow), ins(impl.InsThrow)), 2, shape(none, 9)), 3, shape(none, 12))
	want := []impl.Shape{shape(none), shape(none, 1), shape(none, 9), shape(none, 12)}
	low := oneMethod(0, ins(impl.InsNew, 4), ins(impl.InsThrow))
	first := tell(oneMethod(0, ins(impl.InsGo)), 0, shape(nil))
	mustPassAll(t, []knownPass{
		{"no catch", u, want},
		{"two", catching(u, impl.Catch{To: 4, At: 2, Class: 1}, impl.Catch{To: 4, At: 3, Class: 4}), want},
		{"the first is wrong", catching(u, impl.Catch{To: 1, At: 3, Class: 1}, impl.Catch{To: 4, At: 3, Class: 4}), nil},
		{"the second is wrong", catching(u, impl.Catch{To: 4, At: 2, Class: 1}, impl.Catch{To: 1, At: 3, Class: 1}), nil},
		{"the second is wrong, far behind", catching(u, impl.Catch{To: 4, At: 2, Class: 1}, impl.Catch{From: 3, To: 4, At: 3, Class: 1}), nil},
		{"one comes there, and it is told", tell(catching(low, impl.Catch{To: 1, At: 1, Class: 4}), 1, shape(nil, 12)), []impl.Shape{shape(nil), shape(nil, 12)}},
		{"one comes there, and it is told above", tell(catching(low, impl.Catch{To: 2, At: 1, Class: 1}), 1, shape(nil, 9)), []impl.Shape{shape(nil), shape(nil, 9)}},
		{"one comes there, and it is not told", catching(low, impl.Catch{To: 1, At: 1, Class: 4}), nil},
		{"one comes there lower than what is caught", tell(catching(low, impl.Catch{To: 1, At: 1, Class: 1}), 1, shape(nil, 12)), nil},
		{"at its own place", tell(catching(low, impl.Catch{From: 1, To: 2, At: 1, Class: 4}), 1, shape(nil, 12)), []impl.Shape{shape(nil), shape(nil, 12)}},
		{"at its own place, not told", catching(low, impl.Catch{From: 1, To: 2, At: 1, Class: 4}), nil},
		{"at the first place the stack is empty", catching(first, impl.Catch{To: 1, At: 0, Class: 1}), nil},
	})
}

// What stands at a place that is caught from counts by the shape that is told there, not by what comes.
func TestKnownPassCatchOfWhatIsTold(t *testing.T) {
	u := oneMethod(1, ins(impl.InsNull), ins(impl.InsStore), ins(impl.InsPush), ins(impl.InsBack), ins(impl.InsPop), ins(impl.InsPush), ins(impl.InsBack))
	u = tell(catching(u, impl.Catch{From: 2, To: 3, At: 4, Class: 1}), 2, shape([]int{11}))
	for local, ok := range map[int]bool{0: true, 8: true, 10: true, 11: true, 2: false, 12: false, 3: false, 1: false} {
		_, got := impl.PassShapes(tell(u, 4, shape([]int{local}, 9)), 0)
		if got != ok {
			t.Errorf("caught with the local %d: %v", local, got)
		}
	}
}

// Methods with what they are given, and what they call.
func TestKnownPassMethods(t *testing.T) {
	sum := withCode(plainMethod(-1, 0, 1, 1), ins(impl.InsLoad, 0), ins(impl.InsLoad, 1), ins(impl.InsDo, 1), ins(impl.InsBack))
	get := withOut(withCode(plainMethod(2, 0), ins(impl.InsLoad), ins(impl.InsGet, 2, 1), ins(impl.InsBack)), 11)
	over := withOut(withCode(plainMethod(3, 0), ins(impl.InsLoad), ins(impl.InsBack)), 11)
	first := withCode(plainMethod(-1, 0), ins(impl.InsNew, 3), ins(impl.InsSend, 2, 0), ins(impl.InsPop), ins(impl.InsPush), ins(impl.InsPush), ins(impl.InsCall, 1), ins(impl.InsBack))
	u := impl.Unit{Classes: knownClasses(), Methods: []impl.Method{first, sum, get, over}}
	e, w, two := shape(nil), shape(nil, 1), shape(nil, 1, 1)
	mustUnitPass(t, "all", u, true)
	mustPass(t, "calls", u, 0, []impl.Shape{e, shape(nil, 11), shape(nil, 11), e, w, two, w})
	mustPass(t, "sums", u, 1, []impl.Shape{shape([]int{1, 1}), shape([]int{1, 1}, 1), shape([]int{1, 1}, 1, 1), shape([]int{1, 1}, 1)})
	mustPass(t, "gets", u, 2, []impl.Shape{shape([]int{10}), shape([]int{10}, 10), shape([]int{10}, 11)})
	mustPass(t, "gives itself", u, 3, []impl.Shape{shape([]int{11}), shape([]int{11}, 11)})
	for m := range u.Methods {
		// Each in turn gives back nothing at all.
		bad := copyUnit(u)
		bad.Methods[m] = withCode(bad.Methods[m], ins(impl.InsBack))
		mustUnitPass(t, "one is not passed", bad, false)
		for k := range u.Methods {
			if _, ok := impl.PassShapes(bad, k); ok != (k != m) {
				t.Errorf("method %d with %d broken: %v", k, m, ok)
			}
		}
	}
}

// eachTelling goes by a method as it is, and with each place told nothing, or one of some shapes.
func eachTelling(u impl.Unit, shapes []impl.Shape, visit func(u impl.Unit)) {
	visit(u)
	told := u.Methods[0].Shapes
	for at := range told {
		was := told[at]
		for _, told[at] = range shapes {
			visit(u)
		}
		told[at] = was
	}
}

// P22 to P25, P30: all that eachSmall goes by, told nothing, what is inferred, or that with a place changed.
func TestSmallPassByHand(t *testing.T) {
	shapes := []impl.Shape{{}, shape([]int{0}), shape([]int{2}), shape([]int{0}, 9), shape([]int{1}, 1), shape([]int{0}, 8)}
	passed := 0
	for size := 1; size <= 3; size++ {
		var h hand
		try := func(u impl.Unit) {
			want, ok := h.shapes(u.Methods[0])
			mustPass(t, "small", u, 0, want)
			mustUnitPass(t, "small", u, ok)
			if ok {
				passed++
			}
		}
		eachSmall(size, func(u impl.Unit) {
			if h.in == nil {
				h = handOf(u)
			}
			try(u)
			u.Methods[0].Shapes = h.infer(u.Methods[0])
			eachTelling(u, shapes, try)
		})
	}
	if passed < 1000 {
		t.Error("too few are passed", passed)
	}
}

// P22 to P25, P30.
func TestGrownPassByHand(t *testing.T) {
	d := &dice{state: 99}
	for _, u := range grownUnits(4, 400) {
		h := handOf(u)
		for k, m := range u.Methods {
			for range 4 {
				want, _ := h.shapes(u.Methods[k])
				mustPass(t, "grown", u, k, want)
				mustUnitPass(t, "grown", u, h.unitPass())
				// One shape more, or another.
				at := d.roll(len(m.Code))
				u.Methods[k] = copyMethod(m)
				u.Methods[k].Shapes[at] = d.someShape(u.Classes, m.Locals, d.roll(3))
				if s := m.Shapes[at]; s.Any && d.roll(2) == 0 {
					u.Methods[k].Shapes[at] = pick(d, append(h.lowerShapes(s), s))
				}
			}
			u.Methods[k] = m
		}
	}
}

// eachPassed goes by methods that are passed, with their shapes.
func eachPassed(seed int, count int, visit func(u impl.Unit, k int, m impl.Method, all []impl.Shape)) int {
	passed := 0
	for _, u := range grownUnits(seed, count) {
		for k, m := range u.Methods {
			if all, ok := impl.PassShapes(u, k); ok {
				passed++
				visit(u, k, m, all)
			}
		}
	}
	return passed
}

// P23, by its own words.
func TestEachPlaceHasWhatIsTold(t *testing.T) {
	passed := eachPassed(5, 300, func(u impl.Unit, k int, m impl.Method, all []impl.Shape) {
		if len(all) != len(m.Code) {
			t.Fatalf("%v, %d: %d shapes", u, k, len(all))
		}
		for at, told := range m.Shapes {
			want := told
			if !told.Any && at == 0 {
				want = impl.ShapeStart(u, k)
			} else if !told.Any {
				want, _ = impl.PassStep(u, k, at-1, all[at-1])
			}
			if !all[at].Any || !equalShapes(all[at], want) {
				t.Fatalf("%v, %d: at %d is %v, not %v", u, k, at, all[at], want)
			}
		}
	})
	if passed < 300 {
		t.Error("too few are passed", passed)
	}
}

// P24, by its own words.
func TestWhatIsBehindIsInWhereItLeads(t *testing.T) {
	led := 0
	eachPassed(6, 300, func(u impl.Unit, k int, m impl.Method, all []impl.Shape) {
		for at, i := range m.Code {
			behind, ok := impl.PassStep(u, k, at, all[at])
			var to []int
			if jumping(i.Kind) {
				to = append(to, i.A)
			}
			if goesOn(i.Kind) {
				to = append(to, at+1)
			}
			for _, place := range to {
				led++
				if !ok || place >= len(all) || !impl.ShapeIn(u.Classes, behind, all[place]) {
					t.Fatalf("%v, %d: from %d to %d in %v", u, k, at, place, behind)
				}
			}
		}
	})
	if led < 1000 {
		t.Error("too few ways", led)
	}
}

// P25, by its own words.
func TestWhatIsCaughtIsInWhereItIsCaught(t *testing.T) {
	caught := 0
	eachPassed(7, 300, func(u impl.Unit, k int, m impl.Method, all []impl.Shape) {
		for at := range m.Code {
			for _, c := range m.Catches {
				if at < c.From || at >= c.To {
					continue
				}
				caught++
				if !m.Shapes[c.At].Any || !impl.ShapeIn(u.Classes, shape(all[at].Locals, impl.TypeClass+c.Class), all[c.At]) {
					t.Fatalf("%v, %d: from %d what is caught at %d does not fit", u, k, at, c.At)
				}
			}
		}
	})
	if caught < 100 {
		t.Error("too few are caught", caught)
	}
}

// P30, by its own words.
func TestUnitPassIsOfEachMethod(t *testing.T) {
	count := map[bool]int{}
	for _, u := range slices.Concat(someUnits(), grownUnits(8, 300), unitsThatAreNotOk()) {
		want := impl.UnitOk(u)
		for k := range u.Methods {
			_, ok := impl.PassShapes(u, k)
			want = want && ok
		}
		count[want]++
		mustUnitPass(t, "each method", u, want)
	}
	if count[true] < 50 || count[false] < 50 {
		t.Error("too few", count)
	}
}

// P31.
func TestAnInstructionMoreBehindTheEnd(t *testing.T) {
	count := map[bool]int{}
	eachPassed(9, 400, func(u impl.Unit, k int, m impl.Method, all []impl.Shape) {
		if len(m.Code) == impl.CodeMax {
			return
		}
		more := copyUnit(u)
		more.Methods[k].Code = append(more.Methods[k].Code, ins(impl.InsGo))
		more.Methods[k].Shapes = append(more.Methods[k].Shapes, impl.Shape{})
		mustUnit(t, "one more", more, true)
		mustPass(t, "one more, nothing told", more, k, nil)
		more.Methods[k].Shapes[len(m.Code)] = copyOfShape(all[0])
		count[m.Shapes[0].Any]++
		if m.Shapes[0].Any {
			mustPass(t, "one more, told", more, k, append(all, all[0]))
		} else {
			mustPass(t, "one more, told, but not at the first place", more, k, nil)
		}
	})
	if count[true] < 20 || count[false] < 100 {
		t.Error("too few", count)
	}
}

// P32: of units that are ok; a class more, below any, changes nothing of what was told of the others.
func TestAClassMore(t *testing.T) {
	d := &dice{state: 3}
	count := map[bool]int{}
	for _, u := range grownUnits(10, 600) {
		if len(u.Classes) == impl.ClassMax {
			continue
		}
		for super := range u.Classes {
			more := copyUnit(u)
			more.Classes = withClass(u.Classes, super, ownFields(d.roll(6), len(u.Classes), len(u.Classes)+1))
			mustUnit(t, "a class more", more, true)
			mustUnitPass(t, "a class more", more, impl.UnitPass(u))
			for k := range u.Methods {
				all, _ := impl.PassShapes(u, k)
				mustPass(t, "a class more", more, k, all)
			}
			count[impl.UnitPass(u)]++
		}
	}
	if count[true] < 50 || count[false] < 50 {
		t.Error("too few", count)
	}
}

// asksFor says whether a method of the unit sends what nobody answers, but with the method more somebody would.
func asksFor(h hand, more impl.Method) bool {
	for _, m := range h.u.Methods {
		for _, i := range m.Code {
			if i.Kind == impl.InsSend && h.called(i) == -1 && i.B == more.Sel && more.Class != -1 && h.up[i.A][more.Class] {
				return true
			}
		}
	}
	return false
}

// P33: with a method more that is passed, nobody's or somebody's, a unit is passed just if it was, unless a method sent what only that one answers.
func TestAMethodMore(t *testing.T) {
	d := &dice{state: 8}
	count := map[bool]int{}
	for _, u := range grownUnits(11, 1500) {
		if len(u.Methods) == impl.MethodMax {
			continue
		}
		m := plainMethod(d.roll(len(u.Classes)+1)-1, 0)
		if m.Class == impl.ClassRoot {
			m.Class = impl.ClassFail
		}
		if m.Class != -1 {
			m.Sel = d.roll(impl.SelMax)
		}
		more := copyUnit(u)
		more.Methods = append(more.Methods, m)
		if !impl.UnitOk(more) || asksFor(handOf(u), m) {
			continue
		}
		growMethod(d, more, len(u.Methods))
		if _, ok := impl.PassShapes(more, len(u.Methods)); !ok {
			continue
		}
		count[impl.UnitPass(u)]++
		mustUnitPass(t, "a method more", more, impl.UnitPass(u))
	}
	if count[true] < 50 || count[false] < 50 {
		t.Error("too few", count)
	}
}

// P33: what nobody answered is not passed by the chapter's own words, and is when somebody does; one that is passed stays so when a class answers for itself.
func TestAMethodMoreThatAnswers(t *testing.T) {
	u := impl.Unit{Classes: knownClasses(), Methods: []impl.Method{withCode(plainMethod(-1, 0), ins(impl.InsNew, 3), ins(impl.InsSend, 3, 0), ins(impl.InsBack))}}
	mustUnitPass(t, "nobody answers", u, false)
	u.Methods = append(u.Methods, plainMethod(3, 1))
	mustUnitPass(t, "one answers, called otherwise", u, false)
	u.Methods = append(u.Methods, plainMethod(2, 0))
	mustUnitPass(t, "the one above answers", u, true)
	u.Methods = append(u.Methods, plainMethod(3, 0))
	mustUnitPass(t, "it answers itself", u, true)
}
