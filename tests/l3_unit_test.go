package tests

import (
	"reflect"
	"slices"
	"testing"

	"loop.example/entail/impl"
)

func mustUnit(t *testing.T, what string, u impl.Unit, want bool) {
	t.Helper()
	if impl.UnitOk(u) != want {
		t.Fatalf("%s: UnitOk(%v) is not %v", what, u, want)
	}
}

func TestLimitsOfUnits(t *testing.T) {
	if impl.MethodMax != 4 || impl.CodeMax != 12 || impl.ArgMax != 2 || impl.LocalMax != 3 || impl.StackMax != 4 || impl.CatchMax != 2 || impl.SelMax != 3 {
		t.Error("limits are others")
	}
	kinds := []int{impl.InsPush, impl.InsNull, impl.InsLoad, impl.InsStore, impl.InsPop, impl.InsDup, impl.InsDo, impl.InsLess, impl.InsSame, impl.InsNil, impl.InsGo, impl.InsNew,
		impl.InsArr, impl.InsLen, impl.InsAt, impl.InsSet, impl.InsGet, impl.InsPut, impl.InsCast, impl.InsCall, impl.InsSend, impl.InsBack, impl.InsThrow, impl.InsSay}
	for i, kind := range kinds {
		if kind != i+1 {
			t.Errorf("kind %d is %d", i+1, kind)
		}
	}
}

// P15, P16.
func TestUnitsThatAreOk(t *testing.T) {
	for i, u := range someUnits() {
		if !unitOkByHand(u) {
			t.Fatalf("some unit %d is not ok by hand", i)
		}
		mustUnit(t, "some unit", u, true)
	}
	for _, cs := range everyClasses() {
		mustUnit(t, "one method", unitOf(cs), true)
	}
}

// P16.
func TestUnitsWithoutClasses(t *testing.T) {
	mustUnit(t, "nothing", impl.Unit{}, false)
	mustUnit(t, "no method", impl.Unit{Classes: twoClasses()}, false)
	mustUnit(t, "no method", impl.Unit{Classes: knownClasses(), Methods: []impl.Method{}}, false)
	for _, u := range someUnits() {
		u.Classes = nil
		mustUnit(t, "no class", u, false)
		u.Classes = []impl.Class{}
		mustUnit(t, "no class", u, false)
	}
	for _, cs := range spoiltClasses() {
		mustUnit(t, "classes that are not ok", unitOf(cs), false)
		mustUnit(t, "classes that are not ok", unitOf(cs, plainMethod(1, 0)), false)
		mustUnit(t, "classes that are not ok", impl.Unit{Classes: cs, Methods: fullUnit().Methods}, false)
	}
}

// P16.
func TestFirstMethods(t *testing.T) {
	for _, u := range someUnits() {
		for class := range u.Classes {
			u := copyUnit(u)
			u.Methods[0].Class = class
			u.Methods[0].Locals = impl.LocalMax
			mustUnit(t, "the first is somebody's", u, false)
		}
		for _, out := range allInts() {
			u := copyUnit(u)
			u.Methods[0].Out = out
			mustUnit(t, "what the first gives back", u, out == impl.TypeInt)
		}
	}
	for _, arg := range fieldTypesByHand(knownClasses()) {
		for _, args := range [][]int{{arg}, {arg, arg}} {
			u := impl.Unit{Classes: knownClasses(), Methods: []impl.Method{plainMethod(-1, 0, args...)}}
			mustUnit(t, "the first is given something", u, false)
		}
	}
}

// P15: each way in which what is given, and locals, can be around the limits.
func TestRoomForWhatIsGiven(t *testing.T) {
	for _, class := range []int{-1, 1, 2, 4} {
		for args := range impl.ArgMax + 2 {
			for _, locals := range allInts() {
				m := plainMethod(class, 0, slices.Repeat([]int{impl.TypeRefs}, args)...)
				least := m.Locals
				m.Locals = locals
				mustUnit(t, "locals", unitOf(knownClasses(), m), args <= impl.ArgMax && least <= locals && locals <= impl.LocalMax)
			}
		}
	}
}

func TestHowManyMethods(t *testing.T) {
	u := unitOf(twoClasses())
	for count := 1; count <= impl.MethodMax+2; count++ {
		mustUnit(t, "methods that are nobody's", u, count <= impl.MethodMax)
		u.Methods = append(u.Methods, plainMethod(-1, 0))
	}
	sent := []impl.Method{plainMethod(1, 0), plainMethod(1, 1), plainMethod(1, 2), plainMethod(2, 0)}
	for count := range len(sent) + 1 {
		mustUnit(t, "methods of classes", unitOf(knownClasses(), sent[:count]...), count < impl.MethodMax)
	}
}

func TestHowManyInstructions(t *testing.T) {
	for count := range impl.CodeMax + 3 {
		ok := 1 <= count && count <= impl.CodeMax
		mustUnit(t, "instructions", impl.Unit{Classes: twoClasses(), Methods: []impl.Method{withPops(plainMethod(-1, 0), count)}}, ok)
		mustUnit(t, "instructions", unitOf(twoClasses(), withPops(plainMethod(1, 2), count)), ok)
		for shapes := range impl.CodeMax + 3 {
			m := withPops(plainMethod(-1, 0), count)
			m.Shapes = make([]impl.Shape, shapes)
			mustUnit(t, "shapes", unitOf(twoClasses(), m), ok && shapes == count)
		}
	}
}

func TestWhoseAndHowCalled(t *testing.T) {
	for _, cs := range [][]impl.Class{twoClasses(), knownClasses()} {
		for _, class := range allInts() {
			for _, sel := range allInts() {
				m := plainMethod(class, sel)
				ok := class == -1 && sel == 0 || class > impl.ClassRoot && class < len(cs) && 0 <= sel && sel < impl.SelMax
				mustUnit(t, "whose, and how called", unitOf(cs, m), ok)
			}
		}
	}
}

func TestTypesOfWhatIsGivenAndGivenBack(t *testing.T) {
	for _, cs := range [][]impl.Class{twoClasses(), everyTree(3, 1)[0], knownClasses()} {
		for _, n := range append(allInts(), noTypes(cs)...) {
			ok := slices.Contains(fieldTypesByHand(cs), n)
			for _, class := range []int{-1, 1} {
				mustUnit(t, "args", unitOf(cs, plainMethod(class, 0, n)), ok)
				mustUnit(t, "args", unitOf(cs, plainMethod(class, 0, n, impl.TypeInt)), ok)
				mustUnit(t, "args", unitOf(cs, plainMethod(class, 0, impl.TypeInt, n)), ok)
				mustUnit(t, "what is given back", unitOf(cs, withOut(plainMethod(class, 0), n)), ok)
			}
		}
	}
}

// placesToTry are a unit and one of its methods each, so that locals, places, classes and methods are 1, all, or some between.
func placesToTry() []impl.Unit {
	some := withPops(plainMethod(2, 1, impl.TypeInt), 5)
	most := withPops(plainMethod(-1, 0, impl.TypeInts), impl.CodeMax)
	most.Locals = impl.LocalMax
	return []impl.Unit{
		unitOf(twoClasses(), withPops(plainMethod(-1, 0), 1)),
		unitOf(twoClasses(), withPops(plainMethod(1, 0), 2)),
		unitOf(everyTree(4, 3)[4], plainMethod(-1, 0), plainMethod(1, 2), some),
		unitOf(knownClasses(), plainMethod(3, 0), most),
	}
}

// Each kind with each A and B that it may have, and those beside, in the last method, at its first, its last and a middle place.
func TestEachInstruction(t *testing.T) {
	for _, u := range placesToTry() {
		m := u.Methods[len(u.Methods)-1]
		ok := okInstructions(u, m)
		for _, at := range []int{0, len(m.Code) / 2, len(m.Code) - 1} {
			was := m.Code[at]
			for _, kind := range allInts() {
				for _, a := range allInts() {
					for _, b := range []int{0, 1, -1, 2, 3, 4, 5, 6, 7, 8} {
						m.Code[at] = impl.Ins{Kind: kind, A: a, B: b}
						if impl.UnitOk(u) != ok[m.Code[at]] {
							t.Fatalf("%v at %d of %v: UnitOk is not %v", m.Code[at], at, u, ok[m.Code[at]])
						}
					}
				}
			}
			m.Code[at] = was
		}
	}
}

func TestEachInstructionWithFarNumbers(t *testing.T) {
	for _, u := range placesToTry() {
		m := u.Methods[len(u.Methods)-1]
		for kind := impl.InsPush; kind <= impl.InsSay; kind++ {
			for _, far := range append(farInts(), 100, -100) {
				for _, near := range []int{0, 1, 2} {
					for _, ins := range []impl.Ins{{Kind: kind, A: near, B: far}, {Kind: kind, A: far, B: far}, {Kind: far, A: near, B: near}} {
						m.Code[0] = ins
						mustUnit(t, "far", u, false)
					}
				}
			}
			m.Code[0] = impl.Ins{Kind: impl.InsPop}
		}
	}
}

// Each word, and none beside, may be pushed.
func TestEachWordIsPushed(t *testing.T) {
	u := unitOf(twoClasses())
	for n := -600; n <= 600; n++ {
		u.Methods[0].Code[0].A = n
		mustUnit(t, "push", u, impl.IntLow <= n && n <= impl.IntHigh)
	}
}

// A method is called only if it is nobody's, also if it stands behind, or is the one that calls.
func TestWhichMethodsAreCalled(t *testing.T) {
	for _, whose := range [][]int{{-1, -1, -1}, {1, -1, -1}, {-1, 2, -1}, {1, 2, 3}, {-1, -1, 4}} {
		for from := range 4 {
			for to := -1; to <= 5; to++ {
				u := unitOf(knownClasses())
				for _, class := range whose {
					u.Methods = append(u.Methods, plainMethod(class, 0))
				}
				u.Methods[from].Code[0] = impl.Ins{Kind: impl.InsCall, A: to}
				mustUnit(t, "call", u, 0 <= to && to < 4 && u.Methods[to].Class == -1)
			}
		}
	}
}

// What a class has from above counts among its fields, and first.
func TestFieldsFromAbove(t *testing.T) {
	for _, cs := range everyClasses() {
		u := unitOf(cs)
		for class := range cs {
			count := fieldsByHand(cs, class)
			for _, kind := range []int{impl.InsGet, impl.InsPut} {
				for field := -1; field <= count+2; field++ {
					u.Methods[0].Code[0] = impl.Ins{Kind: kind, A: class, B: field}
					mustUnit(t, "field", u, 0 <= field && field < count)
				}
			}
		}
	}
}

func TestEachCatch(t *testing.T) {
	for _, cs := range [][]impl.Class{twoClasses(), knownClasses(), everyTree(5, 0)[23], everyTree(5, 0)[8]} {
		for _, size := range []int{1, 2, 4} {
			m := withPops(plainMethod(-1, 0), size)
			m.Catches = make([]impl.Catch, 1)
			u := impl.Unit{Classes: cs, Methods: []impl.Method{m}}
			for from := -1; from <= size+1; from++ {
				for to := -1; to <= size+1; to++ {
					for at := -1; at <= size+1; at++ {
						for class := -1; class <= len(cs); class++ {
							m.Catches[0] = impl.Catch{From: from, To: to, At: at, Class: class}
							mustUnit(t, "catch", u, catchOkByHand(u, m, m.Catches[0]))
						}
					}
				}
			}
		}
	}
}

func TestHowManyCatches(t *testing.T) {
	one := impl.Catch{From: 0, To: 2, At: 1, Class: 1}
	for _, class := range []int{-1, 1} {
		for count := range impl.CatchMax + 3 {
			m := plainMethod(class, 0)
			m.Catches = slices.Repeat([]impl.Catch{one}, count)
			mustUnit(t, "catches", unitOf(twoClasses(), m), count <= impl.CatchMax)
			for i := range m.Catches {
				m.Catches[i].To = 3
				mustUnit(t, "one catch is wrong", unitOf(twoClasses(), m), false)
				m.Catches[i] = one
			}
		}
	}
}

// P15: a shape that tells something tells of the locals of its method, and one that is wrong is seen at each place.
func TestShapesOfMethods(t *testing.T) {
	cs := knownClasses()
	shapes := []impl.Shape{{}, {Any: true}, {Any: true, Locals: []int{0}}, {Any: true, Locals: []int{8, 9}}, {Any: true, Locals: []int{1, 2, 3}, Stack: []int{1, 2, 3, 4}},
		{Locals: []int{1}}, {Stack: []int{1}}, {Any: true, Locals: []int{5}}, {Any: true, Stack: []int{0}}, {Any: true, Locals: []int{1, 1, 1}, Stack: []int{1, 1, 1, 1, 1}}, {Any: true, Locals: []int{1, 1, 1, 1}}}
	for locals := range impl.LocalMax + 1 {
		for at := range impl.CodeMax {
			for _, s := range shapes {
				m := withPops(plainMethod(-1, 0), impl.CodeMax)
				m.Locals = locals
				m.Shapes[at] = s
				mustUnit(t, "shape", unitOf(cs, m), shapeOkByHand(cs, locals, s))
			}
		}
	}
}

// P15.
func TestUnitsThatTellNothingAreOkStill(t *testing.T) {
	for _, u := range someUnits() {
		u = copyUnit(u)
		for i, m := range u.Methods {
			u.Methods[i].Shapes = make([]impl.Shape, len(m.Code))
			mustUnit(t, "tells less", u, true)
		}
	}
}

// ints are all numbers in a unit.
func ints(u impl.Unit) []*int {
	var all []*int
	list := func(ns []int) {
		for i := range ns {
			all = append(all, &ns[i])
		}
	}
	for i := range u.Classes {
		all = append(all, &u.Classes[i].Super)
		list(u.Classes[i].Fields)
	}
	for i := range u.Methods {
		m := &u.Methods[i]
		all = append(all, &m.Class, &m.Sel, &m.Out, &m.Locals)
		list(m.Args)
		for k := range m.Code {
			all = append(all, &m.Code[k].Kind, &m.Code[k].A, &m.Code[k].B)
		}
		for k := range m.Shapes {
			list(m.Shapes[k].Locals)
			list(m.Shapes[k].Stack)
		}
		for k := range m.Catches {
			all = append(all, &m.Catches[k].From, &m.Catches[k].To, &m.Catches[k].At, &m.Catches[k].Class)
		}
	}
	return all
}

// P12 to P16: each number of a unit as any other, near and far: it is ok just if it is by hand, and does not panic.
func TestUnitsWithOneNumberChanged(t *testing.T) {
	for _, u := range someUnits() {
		for _, n := range ints(u) {
			was := *n
			for _, *n = range allInts() {
				mustBeAsByHand(t, u)
			}
			*n = was
		}
	}
}

func mustBeAsByHand(t *testing.T, u impl.Unit) {
	t.Helper()
	ok := unitOkByHand(u)
	if impl.UnitOk(u) != ok {
		t.Fatalf("UnitOk(%v) is not %v", u, ok)
	}
	if ok {
		return
	}
	for _, class := range []int{-1, 0, 1, 4} {
		if m := impl.UnitFind(u, class, 0); m != -1 {
			t.Fatalf("UnitFind(%v, %d, 0) is %d", u, class, m)
		}
	}
}

// otherSizes are what a list can be, cut, doubled, or with one more.
func otherSizes[T any](list []T) [][]T {
	var more T
	all := [][]T{nil, append(slices.Clone(list), more), slices.Concat(list, list)}
	if len(list) > 0 {
		all = append(all, list[1:], list[:len(list)-1])
	}
	return all
}

func tryOtherSizes[T any](t *testing.T, u *impl.Unit, list *[]T) {
	t.Helper()
	was := *list
	for _, *list = range otherSizes(was) {
		mustBeAsByHand(t, *u)
	}
	*list = was
}

// P12 to P16: each list of a unit longer, shorter, or not there.
func TestUnitsWithOneListChanged(t *testing.T) {
	for _, u := range someUnits() {
		tryOtherSizes(t, &u, &u.Classes)
		tryOtherSizes(t, &u, &u.Methods)
		for i := range u.Classes {
			tryOtherSizes(t, &u, &u.Classes[i].Fields)
		}
		for i := range u.Methods {
			m := &u.Methods[i]
			tryOtherSizes(t, &u, &m.Args)
			tryOtherSizes(t, &u, &m.Code)
			tryOtherSizes(t, &u, &m.Shapes)
			tryOtherSizes(t, &u, &m.Catches)
			for k := range m.Shapes {
				tryOtherSizes(t, &u, &m.Shapes[k].Locals)
				tryOtherSizes(t, &u, &m.Shapes[k].Stack)
			}
		}
	}
}

// spare is the list with marks behind its end, in the same memory.
func spare[T any](list []T, mark T) []T {
	long := append(slices.Clone(list), mark, mark, mark)
	return long[:len(list)]
}

// spareUnit is a copy whose lists all have marks behind their ends.
func spareUnit(u impl.Unit) impl.Unit {
	u = copyUnit(u)
	for i, c := range u.Classes {
		u.Classes[i].Fields = spare(c.Fields, spareMark)
	}
	for i := range u.Methods {
		m := &u.Methods[i]
		for k, s := range m.Shapes {
			m.Shapes[k].Locals, m.Shapes[k].Stack = spare(s.Locals, spareMark), spare(s.Stack, spareMark)
		}
		m.Args, m.Code = spare(m.Args, spareMark), spare(m.Code, impl.Ins{Kind: spareMark})
		m.Shapes, m.Catches = spare(m.Shapes, impl.Shape{Locals: []int{spareMark}}), spare(m.Catches, impl.Catch{From: spareMark})
	}
	return impl.Unit{Classes: spare(u.Classes, impl.Class{Super: spareMark}), Methods: spare(u.Methods, impl.Method{Class: spareMark})}
}

// wholeUnit is a copy of all that is in the memory of a unit, also behind the ends of its lists.
func wholeUnit(u impl.Unit) impl.Unit {
	u = impl.Unit{Classes: slices.Clone(u.Classes[:cap(u.Classes)]), Methods: slices.Clone(u.Methods[:cap(u.Methods)])}
	for i, c := range u.Classes {
		u.Classes[i].Fields = c.Fields[:cap(c.Fields)]
	}
	for i := range u.Methods {
		m := &u.Methods[i]
		m.Args, m.Code = m.Args[:cap(m.Args)], m.Code[:cap(m.Code)]
		m.Shapes, m.Catches = slices.Clone(m.Shapes[:cap(m.Shapes)]), m.Catches[:cap(m.Catches)]
		for k, s := range m.Shapes {
			m.Shapes[k].Locals, m.Shapes[k].Stack = s.Locals[:cap(s.Locals)], s.Stack[:cap(s.Stack)]
		}
	}
	return copyUnit(u)
}

func callAllOfUnit(u impl.Unit) {
	impl.UnitOk(u)
	for class := -1; class <= len(u.Classes); class++ {
		for sel := -1; sel <= impl.SelMax; sel++ {
			impl.UnitFind(u, class, sel)
		}
	}
	for _, m := range u.Methods {
		for _, s := range m.Shapes {
			impl.ShapeOk(u.Classes, m.Locals, s)
		}
	}
}

// P12 to P16: of units that are ok, and of those that are not, nothing is written into them, or behind an end.
func TestUnitsStayAsTheyAre(t *testing.T) {
	all := someUnits()
	for _, u := range someUnits() {
		spoilt := copyUnit(u)
		spoilt.Methods[len(spoilt.Methods)-1].Code[0].Kind = 0
		all = append(all, spoilt, impl.Unit{Classes: spoiltClasses()[0], Methods: u.Methods}, impl.Unit{Classes: u.Classes})
	}
	for _, first := range all {
		u := spareUnit(first)
		was := wholeUnit(u)
		callAllOfUnit(u)
		if now := wholeUnit(u); !reflect.DeepEqual(now, was) {
			t.Fatalf("%v is %v now", was, now)
		}
	}
}
