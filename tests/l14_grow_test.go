package tests

import (
	"slices"
	"testing"

	"loop.example/entail/impl"
)

// hostAt is where a host has its instruction; one never comes there, but a machine may stand there.
const hostAt = 2

// hosts are the methods of a unit whose first one is still to be filled: 1 waits for that one, 2 does with a word left, and 3 sends.
func hosts() impl.Unit {
	first := withPops(plainMethod(-1, 0), impl.CodeMax)
	first.Locals = impl.LocalMax
	return impl.Unit{Classes: knownClasses(), Methods: []impl.Method{
		first,
		withCode(plainMethod(-1, 0, impl.TypeInts, impl.TypeClass+2), ins(impl.InsCall, 0), ins(impl.InsBack)),
		withCode(plainMethod(2, 1, impl.TypeInt), ins(impl.InsPush, 5), ins(impl.InsCall, 0), ins(impl.InsDo, impl.OpAdd), ins(impl.InsBack)),
		withCode(plainMethod(3, 1, impl.TypeInt), ins(impl.InsLoad, 0), ins(impl.InsLoad, 1), ins(impl.InsSend, 2, 1), ins(impl.InsBack)),
	}}
}

// someIn is a type in one of those that are wanted; a few times only that of what leads to nothing, for that is in most.
func (d *dice) someIn(h hand, wanted []int) int {
	var may []int
	for _, t := range allTypes(h.u.Classes)[1:] {
		if slices.ContainsFunc(wanted, func(wide int) bool { return h.in[t][wide] }) && (t != impl.TypeNull || d.roll(8) == 0) {
			may = append(may, t)
		}
	}
	return pick(d, may)
}

// hostIns is an instruction of that kind which may stand in the shape.
func (d *dice) hostIns(h hand, kind int) (impl.Ins, impl.Shape) {
	first := h.u.Methods[0]
	lists := instructionList(h.u, first)
	list := lists[slices.IndexFunc(lists, func(list []impl.Ins) bool { return list[0].Kind == kind })]
	for {
		i := pick(d, list)
		wanted, _ := h.wanted(first, i, impl.Shape{})
		s := d.someShape(h.u.Classes, impl.LocalMax, d.roll(impl.StackMax+1-len(wanted)))
		if jumping(kind) {
			// The code behind takes twice what is left.
			s.Stack = s.Stack[:min(2, len(s.Stack))]
		}
		for _, types := range wanted {
			s.Stack = append(s.Stack, d.someIn(h, types))
		}
		if _, ok := h.step(first, i, s); ok {
			return i, s
		}
	}
}

// endCode takes so many from the stack, and gives back a word.
func endCode(count int) []impl.Ins {
	return append(slices.Repeat([]impl.Ins{ins(impl.InsPop)}, count), ins(impl.InsPush, 77), ins(impl.InsBack))
}

// hostUnitOf is passed, and has that instruction at hostAt of its first method, where that shape is told; class is of what may be caught there.
func hostUnitOf(i impl.Ins, s impl.Shape, class int) impl.Unit {
	u := hosts()
	behind, _ := handOf(u).step(u.Methods[0], i, s)
	next := behind
	if !goesOn(i.Kind) {
		next = shape(s.Locals)
	}
	code := slices.Concat([]impl.Ins{ins(impl.InsPush), ins(impl.InsBack), i}, endCode(len(next.Stack)))
	to, there := len(code), shape(s.Locals, 8+class)
	if jumping(i.Kind) {
		code[hostAt].A, there = to, behind
	}
	first := withCode(u.Methods[0], append(code, endCode(len(there.Stack))...)...)
	first.Shapes[hostAt], first.Shapes[hostAt+1], first.Shapes[to] = s, next, there
	u.Methods[0] = first
	return copyUnit(u)
}

// lastTold is the last place of a host at which a shape is told: where it jumps, or where it may catch.
func lastTold(u impl.Unit) int {
	shapes := u.Methods[0].Shapes
	to := len(shapes) - 1
	for !shapes[to].Any {
		to--
	}
	return to
}

// withCatch has what the instruction of a host throws caught by the host itself.
func withCatch(u impl.Unit) impl.Unit {
	to := lastTold(u)
	class := u.Methods[0].Shapes[to].Stack[0] - 8
	return catching(u, impl.Catch{From: hostAt, To: hostAt + 1, At: to, Class: class})
}

// hostUnit is a host of an instruction of that kind; what that throws may be caught.
func (d *dice) hostUnit(kind int) impl.Unit {
	i, s := d.hostIns(handOf(hosts()), kind)
	u := hostUnitOf(i, s, pick(d, []int{1, 4}))
	if !jumping(kind) && d.roll(2) == 0 {
		return withCatch(u)
	}
	return u
}

// hostMach fits a host, and is at its instruction; there may be calls that wait.
func (d *dice) hostMach(h machHand) impl.Mach {
	m := impl.Mach{Objs: d.someThings(h.hand), Steps: d.roll(impl.RunMax)}
	for range d.roll(4) {
		m.Said = append(m.Said, d.roll(256)-128)
	}
	m.Frames = d.callsTo(h, m, 0, hostAt)
	return m
}

// eachHostMach visits machines that fit, and are at an instruction of that kind, so many of each of so many units.
func eachHostMach(seed int, kind int, units int, count int, visit func(h machHand, m impl.Mach)) {
	d := &dice{state: uint64(seed)*7919 + 1}
	for range units {
		h := machHandOf(d.hostUnit(kind))
		for range count {
			visit(h, d.hostMach(h))
		}
	}
}

// What the other tests go by is passed, and fits, and has enough of all.
func TestHosts(t *testing.T) {
	var frames [impl.FrameMax + 1]int
	for kind := impl.InsPush; kind <= impl.InsSay; kind++ {
		eachHostMach(1, kind, 10, 10, func(h machHand, m impl.Mach) {
			if !h.passed || !h.machFits(m) {
				t.Fatalf("%v does not fit %v", m, h.u)
			}
			mustFit(t, "a host", h.u, m)
			frames[len(m.Frames)]++
		})
	}
	if slices.Min(frames[1:]) < 200 {
		t.Error("too few of something", frames)
	}
}
