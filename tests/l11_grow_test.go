package tests

import (
	"slices"
	"testing"

	"loop.example/entail/impl"
)

// dice are the same numbers in each run.
type dice struct {
	state uint64
}

func (d *dice) roll(n int) int {
	d.state ^= d.state << 13
	d.state ^= d.state >> 7
	d.state ^= d.state << 17
	return int(d.state>>33) % n
}

func pick[T any](d *dice, list []T) T {
	return list[d.roll(len(list))]
}

// instructionList is what may stand in a method, each kind as often as any other: a list for each.
func instructionList(u impl.Unit, m impl.Method) [][]impl.Ins {
	ok := okInstructions(u, m)
	var all [][]impl.Ins
	for kind := impl.InsPush; kind <= impl.InsSay; kind++ {
		var list []impl.Ins
		for a := -1; a < impl.CodeMax; a++ {
			for b := range 7 {
				if i := ins(kind, a, b); ok[i] {
					list = append(list, i)
				}
			}
		}
		if len(list) > 0 {
			all = append(all, list)
		}
	}
	return all
}

func (d *dice) someShape(cs []impl.Class, locals int, stack int) impl.Shape {
	s := impl.Shape{Any: true}
	for range locals {
		s.Locals = append(s.Locals, pick(d, allTypes(cs)))
	}
	for range stack {
		s.Stack = append(s.Stack, pick(d, allTypes(cs)[1:]))
	}
	return s
}

// growHeads is a unit whose methods give back a word, whatever they should, yet.
func growHeads(d *dice) impl.Unit {
	cs := pick(d, everyTree(2+d.roll(4), d.roll(6)))
	u := unitOf(cs)
	u.Methods[0].Locals = d.roll(impl.LocalMax + 1)
	for range d.roll(6) {
		var args []int
		for range d.roll(impl.ArgMax + 1) {
			args = append(args, pick(d, fieldTypesByHand(cs)))
		}
		class, sel := d.roll(len(cs)+1)-1, 0
		if class != -1 {
			sel = d.roll(2)
		}
		m := withOut(plainMethod(class, sel, args...), pick(d, append(fieldTypesByHand(cs), impl.TypeInt, impl.TypeInt)))
		m.Locals += d.roll(impl.LocalMax - m.Locals + 1)
		more := impl.Unit{Classes: cs, Methods: append(slices.Clone(u.Methods), m)}
		if impl.UnitOk(more) {
			u = more
		}
	}
	return u
}

// growing is a method whose code is as long as it is to be, and the shapes in which one comes to its places, so far.
type growing struct {
	d     *dice
	h     hand
	m     impl.Method
	ahead []impl.Shape
	ends  []bool
}

// mayStand says whether an instruction leads only where what it leaves is in what comes there so far.
func (g *growing) mayStand(at int, i impl.Ins, s impl.Shape) bool {
	if ends := at == len(g.m.Code)-1 || g.ends[at]; ends && goesOn(i.Kind) || !ends && i.Kind == impl.InsGo && g.d.roll(20) != 0 {
		return false
	}
	g.m.Code[at] = i
	ways, ok := g.h.stepWays(g.m, at, s)
	for _, w := range ways {
		ok = ok && (!g.ahead[w.to].Any || g.h.shapeIn(w.s, g.ahead[w.to]))
	}
	return ok
}

// next takes an instruction that may stand there, if there is one, those that want much of the stack rather than others; a few times it takes any.
func (g *growing) next(list [][]impl.Ins, at int, s impl.Shape) impl.Ins {
	var may [][]impl.Ins
	for _, kind := range list {
		var some []impl.Ins
		for _, i := range kind {
			if g.mayStand(at, i, s) {
				some = append(some, i)
			}
		}
		if len(some) == 0 {
			continue
		}
		wants, _ := g.h.wanted(g.m, some[0], s)
		for range 1 + len(wants)*len(wants)*len(wants)/2 {
			may = append(may, some)
		}
	}
	if len(may) == 0 || g.d.roll(40) == 0 {
		may = list
	}
	return pick(g.d, pick(g.d, may))
}

func (g *growing) addCatch() {
	size := len(g.m.Code)
	c := impl.Catch{From: g.d.roll(size), At: g.d.roll(size), Class: impl.ClassFail}
	c.To = c.From + 1 + g.d.roll(size-c.From)
	for class := range g.h.u.Classes {
		if g.h.up[class][impl.ClassFail] && g.d.roll(2) == 0 {
			c.Class = class
		}
	}
	if c.At > 0 {
		g.ends[c.At-1] = true
		g.ahead[c.At] = caughtWays(impl.Method{Catches: []impl.Catch{{To: 1, Class: c.Class}}}, 0, g.h.start(g.m))[0].s
	}
	g.m.Catches = append(g.m.Catches, c)
}

func (g *growing) fill(list [][]impl.Ins) {
	comes := g.h.start(g.m)
	for at := range g.m.Code {
		if g.ahead[at].Any {
			comes = g.ahead[at]
		}
		if !comes.Any {
			comes = g.d.someShape(g.h.u.Classes, g.m.Locals, g.d.roll(3))
		}
		g.ahead[at] = comes
		i := g.next(list, at, comes)
		g.m.Code[at] = i
		behind, _ := g.h.step(g.m, i, comes)
		if jumping(i.Kind) && i.A > at && !g.ahead[i.A].Any {
			g.ahead[i.A] = behind
		}
		comes = impl.Shape{}
		if goesOn(i.Kind) {
			comes = behind
		}
	}
}

// growMethod gives a method of a unit a code, catches, and shapes that are told: those of PassInfer, and others where one never comes.
func growMethod(d *dice, u impl.Unit, m int) {
	size := 1 + d.roll(impl.CodeMax)
	g := growing{d: d, h: handOf(u), m: withPops(u.Methods[m], size), ahead: make([]impl.Shape, size), ends: make([]bool, size)}
	for range max(0, d.roll(5)-2) {
		g.addCatch()
	}
	g.fill(instructionList(u, g.m))
	u.Methods[m] = g.m
	g.m.Shapes = g.h.infer(g.m)
	for at, may := range mayTell(g.m) {
		if may && !g.m.Shapes[at].Any {
			g.m.Shapes[at] = g.ahead[at]
		}
	}
	u.Methods[m] = copyMethod(g.m)
}

func growUnit(d *dice) impl.Unit {
	u := growHeads(d)
	for m := range u.Methods {
		growMethod(d, u, m)
	}
	return u
}

// grownUnits are ok; of their methods more than half are passed.
func grownUnits(seed int, count int) []impl.Unit {
	d := &dice{state: uint64(seed)*7919 + 1}
	var all []impl.Unit
	for range count {
		all = append(all, growUnit(d))
	}
	return all
}

// eachSmall goes by all methods of up to three places of few kinds of instructions, with one catch at most.
func eachSmall(size int, visit func(u impl.Unit)) {
	cs := withClass(twoClasses(), 1, nil)
	some := []impl.Ins{ins(impl.InsPush), ins(impl.InsNull), ins(impl.InsLoad), ins(impl.InsStore), ins(impl.InsPop), ins(impl.InsNew, 2), ins(impl.InsBack), ins(impl.InsThrow), ins(impl.InsLen)}
	for at := range size {
		some = append(some, ins(impl.InsGo, at), ins(impl.InsNil, at))
	}
	catches := [][]impl.Catch{nil}
	for from := range size {
		for to := from + 1; to <= size; to++ {
			for at := range size {
				catches = append(catches, []impl.Catch{{From: from, To: to, At: at, Class: 1}})
			}
		}
	}
	codes := [][]impl.Ins{nil}
	for range size {
		var longer [][]impl.Ins
		for _, code := range codes {
			for _, i := range some {
				longer = append(longer, append(slices.Clone(code), i))
			}
		}
		codes = longer
	}
	for _, code := range codes {
		for _, c := range catches {
			m := withCode(plainMethod(-1, 0), code...)
			m.Locals, m.Catches = 1, c
			visit(impl.Unit{Classes: cs, Methods: []impl.Method{m}})
		}
	}
}

// What the other tests go by has enough of both: methods that are passed, and those that are not, with each kind among those that are.
func TestGrownUnits(t *testing.T) {
	passed, not, caught, units := 0, 0, 0, 0
	var kinds [impl.InsSay + 1]int
	for _, u := range grownUnits(1, 400) {
		mustUnit(t, "grown", u, true)
		h := handOf(u)
		if h.unitPass() {
			units++
		}
		for _, m := range u.Methods {
			if _, ok := h.shapes(m); !ok {
				not++
				continue
			}
			passed++
			caught += len(m.Catches)
			for _, i := range m.Code {
				kinds[i.Kind]++
			}
		}
	}
	if passed < 400 || not < 100 || caught < 50 || units < 80 || slices.Min(kinds[1:]) < 5 {
		t.Error("too few of something", passed, not, caught, units, kinds)
	}
}
