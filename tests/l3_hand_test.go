package tests

import (
	"math"
	"slices"

	"loop.example/entail/impl"
)

// nearInts are all places, classes, types and kinds, and the edges of words, each with what stands beside it.
func nearInts() []int {
	var all []int
	for n := -3; n <= 26; n++ {
		all = append(all, n)
	}
	return append(all, -256, -130, -129, -128, -127, 126, 127, 128, 129, 255, 256)
}

// farInts are numbers that nothing in a unit may be; some are near to one that may, if a part of their bits is lost.
func farInts() []int {
	return []int{math.MinInt, math.MinInt + 1, math.MinInt + impl.TypeClass, math.MinInt32, -1 << 16, 1 << 16, 1 << 32, 1<<32 + 1, math.MaxInt - impl.TypeClass, math.MaxInt - 1, math.MaxInt}
}

func allInts() []int {
	return append(nearInts(), farInts()...)
}

// plainMethod has just the room that it needs, gives back the word 0, and tells nothing.
func plainMethod(class int, sel int, args ...int) impl.Method {
	locals := len(args)
	if class != -1 {
		locals++
	}
	m := impl.Method{Class: class, Sel: sel, Args: args, Out: impl.TypeInt, Locals: locals}
	return withCode(m, impl.Ins{Kind: impl.InsPush}, impl.Ins{Kind: impl.InsBack})
}

func withCode(m impl.Method, code ...impl.Ins) impl.Method {
	m.Code = code
	m.Shapes = make([]impl.Shape, len(code))
	return m
}

// withPops has so many instructions that want nothing of the unit.
func withPops(m impl.Method, count int) impl.Method {
	code := make([]impl.Ins, count)
	for i := range code {
		code[i].Kind = impl.InsPop
	}
	return withCode(m, code...)
}

func withOut(m impl.Method, out int) impl.Method {
	m.Out = out
	return m
}

// unitOf begins with a method that is nobody's, as each unit must.
func unitOf(cs []impl.Class, more ...impl.Method) impl.Unit {
	return impl.Unit{Classes: cs, Methods: append([]impl.Method{plainMethod(-1, 0)}, more...)}
}

func copyMethod(m impl.Method) impl.Method {
	m.Args, m.Code, m.Catches = slices.Clone(m.Args), slices.Clone(m.Code), slices.Clone(m.Catches)
	m.Shapes = slices.Clone(m.Shapes)
	for i, s := range m.Shapes {
		m.Shapes[i].Locals, m.Shapes[i].Stack = slices.Clone(s.Locals), slices.Clone(s.Stack)
	}
	return m
}

func copyUnit(u impl.Unit) impl.Unit {
	out := impl.Unit{Classes: copyClasses(u.Classes)}
	for _, m := range u.Methods {
		out.Methods = append(out.Methods, copyMethod(m))
	}
	return out
}

// fullFirst meets CodeMax, LocalMax, StackMax and CatchMax.
func fullFirst() impl.Method {
	m := withCode(plainMethod(-1, 0), impl.Ins{Kind: impl.InsPush, A: impl.IntHigh}, impl.Ins{Kind: impl.InsStore, A: 2}, impl.Ins{Kind: impl.InsNew, A: 4},
		impl.Ins{Kind: impl.InsDup}, impl.Ins{Kind: impl.InsGet, A: 4, B: 2}, impl.Ins{Kind: impl.InsPop}, impl.Ins{Kind: impl.InsCast, A: 1}, impl.Ins{Kind: impl.InsNil, A: 9},
		impl.Ins{Kind: impl.InsGo, A: 9}, impl.Ins{Kind: impl.InsLoad}, impl.Ins{Kind: impl.InsSay}, impl.Ins{Kind: impl.InsThrow})
	m.Locals = impl.LocalMax
	m.Catches = []impl.Catch{{From: 0, To: impl.CodeMax, At: impl.CodeMax - 1, Class: impl.ClassFail}, {From: impl.CodeMax - 1, To: impl.CodeMax, At: 0, Class: 4}}
	m.Shapes[0] = impl.Shape{Any: true, Locals: []int{impl.TypeNone, impl.TypeNone, impl.TypeNone}}
	m.Shapes[9] = impl.Shape{Any: true, Locals: []int{impl.TypeInt, impl.TypeNull, impl.TypeInts}, Stack: []int{impl.TypeClass, impl.TypeRefs, impl.TypeNull, impl.TypeClass + 4}}
	return m
}

// fullUnit meets the limits, and has each kind once at least; a method of class 2 stands again at 3, below it.
func fullUnit() impl.Unit {
	above := withCode(plainMethod(2, impl.SelMax-1, impl.TypeInts, impl.TypeClass+4), impl.Ins{Kind: impl.InsNull}, impl.Ins{Kind: impl.InsDo, A: impl.OpDiv}, impl.Ins{Kind: impl.InsLess},
		impl.Ins{Kind: impl.InsSame, A: 7}, impl.Ins{Kind: impl.InsArr, A: 1}, impl.Ins{Kind: impl.InsLen}, impl.Ins{Kind: impl.InsAt, A: 1}, impl.Ins{Kind: impl.InsSet, A: 1})
	above.Shapes[4] = impl.Shape{Any: true, Locals: []int{impl.TypeClass + 2, impl.TypeNone, impl.TypeInt}, Stack: []int{impl.TypeInt}}
	below := withCode(plainMethod(3, impl.SelMax-1, impl.TypeInts, impl.TypeClass+4), impl.Ins{Kind: impl.InsBack})
	below.Catches = []impl.Catch{{From: 0, To: 1, At: 0, Class: 4}}
	other := withCode(plainMethod(1, 0, impl.TypeRefs), impl.Ins{Kind: impl.InsPut, A: 3, B: 2}, impl.Ins{Kind: impl.InsCall}, impl.Ins{Kind: impl.InsSend, A: 3, B: 2}, impl.Ins{Kind: impl.InsBack})
	return impl.Unit{Classes: knownClasses(), Methods: []impl.Method{fullFirst(), withOut(above, impl.TypeClass+3), withOut(below, impl.TypeClass+3), other}}
}

// someUnits are ok, few, and as unlike each other as can be.
func someUnits() []impl.Unit {
	own := plainMethod(4, 1, impl.TypeClass+4)
	own.Catches = []impl.Catch{{From: 1, To: 2, At: 0, Class: 1}}
	own.Shapes[1] = impl.Shape{Any: true, Locals: []int{impl.TypeClass + 4, impl.TypeNull}, Stack: []int{impl.TypeInt, impl.TypeInt}}
	caller := withCode(plainMethod(-1, 0, impl.TypeInt, impl.TypeRefs), impl.Ins{Kind: impl.InsCall, A: 0}, impl.Ins{Kind: impl.InsSend, A: 0, B: 0}, impl.Ins{Kind: impl.InsCall, A: 1})
	return []impl.Unit{
		fullUnit(),
		unitOf(twoClasses()),
		unitOf(twoClasses(), plainMethod(1, 2)),
		unitOf(knownClasses(), caller, own),
		unitOf(knownClasses(), plainMethod(1, 0), plainMethod(4, 0), plainMethod(4, 1)),
	}
}

// fieldsByHand is how many fields a class has, counted on the way up.
func fieldsByHand(cs []impl.Class, c int) int {
	count := 0
	for ; c != -1; c = cs[c].Super {
		count += len(cs[c].Fields)
	}
	return count
}

// okInstructions are all that may stand in the method, written down one by one; of words that are pushed just those of allInts, for there are many.
func okInstructions(u impl.Unit, m impl.Method) map[impl.Ins]bool {
	all := map[impl.Ins]bool{}
	add := func(a int, b int, kinds ...int) {
		for _, kind := range kinds {
			all[impl.Ins{Kind: kind, A: a, B: b}] = true
		}
	}
	add(0, 0, 2, 5, 6, 14, 22, 23, 24)
	for _, w := range allInts() {
		if -128 <= w && w <= 127 {
			add(w, 0, 1)
		}
	}
	for l := range min(m.Locals, 3) {
		add(l, 0, 3, 4)
	}
	for op := 1; op <= 4; op++ {
		add(op, 0, 7)
	}
	for at := range m.Code {
		add(at, 0, 8, 9, 10, 11)
	}
	for sort := range 2 {
		add(sort, 0, 13, 15, 16)
	}
	for c := range u.Classes {
		add(c, 0, 12, 19)
		for sel := range 3 {
			add(c, sel, 21)
		}
		for f := range fieldsByHand(u.Classes, c) {
			add(c, f, 17, 18)
		}
	}
	for i, called := range u.Methods {
		if called.Class == -1 {
			add(i, 0, 20)
		}
	}
	return all
}

func fieldTypesByHand(cs []impl.Class) []int {
	types := []int{impl.TypeInt, impl.TypeInts, impl.TypeRefs}
	for c := range cs {
		types = append(types, impl.TypeClass+c)
	}
	return types
}

func allAmong(list []int, among []int) bool {
	for _, n := range list {
		if !slices.Contains(among, n) {
			return false
		}
	}
	return true
}

func shapeOkByHand(cs []impl.Class, locals int, s impl.Shape) bool {
	onStack := append(fieldTypesByHand(cs), impl.TypeNull)
	switch {
	case !impl.ClassesOk(cs):
		return false
	case !s.Any:
		return len(s.Locals)+len(s.Stack) == 0
	}
	return len(s.Locals) == locals && len(s.Stack) <= 4 && allAmong(s.Locals, append(onStack, impl.TypeNone)) && allAmong(s.Stack, onStack)
}

func catchOkByHand(u impl.Unit, m impl.Method, c impl.Catch) bool {
	up := upByHand(u.Classes)
	for from := range m.Code {
		for to := from + 1; to <= len(m.Code); to++ {
			for at := range m.Code {
				for class := 1; class < len(u.Classes); class++ {
					if up[class][1] && c == (impl.Catch{From: from, To: to, At: at, Class: class}) {
						return true
					}
				}
			}
		}
	}
	return false
}

func headOkByHand(u impl.Unit, m impl.Method) bool {
	types := fieldTypesByHand(u.Classes)
	if len(m.Args) > 2 || !allAmong(m.Args, types) || !slices.Contains(types, m.Out) || m.Locals > 3 {
		return false
	}
	if m.Class == -1 {
		return m.Sel == 0 && m.Locals >= len(m.Args)
	}
	return m.Class >= 1 && m.Class < len(u.Classes) && m.Sel >= 0 && m.Sel <= 2 && m.Locals > len(m.Args)
}

func bodyOkByHand(u impl.Unit, m impl.Method) bool {
	if len(m.Code) == 0 || len(m.Code) > 12 || len(m.Shapes) != len(m.Code) || len(m.Catches) > 2 {
		return false
	}
	ok := okInstructions(u, m)
	for at, ins := range m.Code {
		if !ok[ins] || !shapeOkByHand(u.Classes, m.Locals, m.Shapes[at]) {
			return false
		}
	}
	for _, c := range m.Catches {
		if !catchOkByHand(u, m, c) {
			return false
		}
	}
	return true
}

// pairOkByHand is of two methods at different places.
func pairOkByHand(cs []impl.Class, a impl.Method, b impl.Method) bool {
	if a.Class == -1 || b.Class == -1 || a.Sel != b.Sel {
		return true
	}
	up := upByHand(cs)
	apart := !up[a.Class][b.Class] && !up[b.Class][a.Class]
	return apart || a.Class != b.Class && a.Out == b.Out && slices.Equal(a.Args, b.Args)
}

func unitOkByHand(u impl.Unit) bool {
	if !impl.ClassesOk(u.Classes) || len(u.Methods) == 0 || len(u.Methods) > 4 {
		return false
	}
	if first := u.Methods[0]; first.Class != -1 || len(first.Args) != 0 || first.Out != impl.TypeInt {
		return false
	}
	for _, m := range u.Methods {
		if !headOkByHand(u, m) || !bodyOkByHand(u, m) {
			return false
		}
	}
	for i, a := range u.Methods {
		for _, b := range u.Methods[i+1:] {
			if !pairOkByHand(u.Classes, a, b) {
				return false
			}
		}
	}
	return true
}

// findByHand is of a unit that is ok; up is upByHand of its classes. It takes, of all methods called so of the class and those above, the one whose class is below the others'.
func findByHand(u impl.Unit, up [][]bool, class int, sel int) int {
	if class < 0 || class >= len(u.Classes) {
		return -1
	}
	best := -1
	for i, m := range u.Methods {
		if m.Class == -1 || m.Sel != sel || !up[class][m.Class] {
			continue
		}
		if best == -1 || up[m.Class][u.Methods[best].Class] {
			best = i
		}
	}
	return best
}
