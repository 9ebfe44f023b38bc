package tests

import (
	"slices"

	"loop.example/entail/impl"
)

// machHand is a unit that is ok, with the shapes of all places, if all of its methods are passed.
type machHand struct {
	hand
	all    [][]impl.Shape
	passed bool
}

func machHandOf(u impl.Unit) machHand {
	h := machHand{hand: handOf(u), passed: true}
	for _, m := range u.Methods {
		shapes, ok := h.shapes(m)
		h.all, h.passed = append(h.all, shapes), h.passed && ok
	}
	return h
}

func firstThings() []impl.Obj {
	return things(thing(1, word(1)), thing(1, word(2)), thing(1, word(3)), thing(1, word(4)), thing(1, word(5)), thing(1, word(6)), thing(1, word(7)))
}

func frame(method int, at int, locals []impl.Val, stack ...impl.Val) impl.Frame {
	return impl.Frame{Method: method, At: at, Locals: locals, Stack: stack}
}

func vals(list ...impl.Val) []impl.Val {
	return list
}

// machOf has things behind the first ones.
func machOf(more []impl.Obj, frames ...impl.Frame) impl.Mach {
	return impl.Mach{Objs: append(firstThings(), more...), Frames: frames}
}

func copyMach(m impl.Mach) impl.Mach {
	m.Objs = copyHeap(heap{objs: m.Objs}).objs
	m.Said = slices.Clone(m.Said)
	m.Frames = slices.Clone(m.Frames)
	for i, f := range m.Frames {
		m.Frames[i].Locals, m.Frames[i].Stack = slices.Clone(f.Locals), slices.Clone(f.Stack)
	}
	return m
}

func equalFrames(a impl.Frame, b impl.Frame) bool {
	return a.Method == b.Method && a.At == b.At && slices.Equal(a.Locals, b.Locals) && slices.Equal(a.Stack, b.Stack)
}

// equalMachs takes the empty list and the nil list for the same.
func equalMachs(a impl.Mach, b impl.Mach) bool {
	lists := slices.EqualFunc(a.Objs, b.Objs, equalThings) && slices.EqualFunc(a.Frames, b.Frames, equalFrames) && slices.Equal(a.Said, b.Said)
	return lists && a.Steps == b.Steps && a.End == b.End && a.Out == b.Out
}

// newByHand is MachNew of a unit that is ok.
func newByHand(u impl.Unit) impl.Mach {
	return machOf(nil, frame(0, 0, slices.Repeat(vals(word(0)), u.Methods[0].Locals)))
}

// rootsOf are all values of a machine that are in no thing.
func rootsOf(m impl.Mach) []impl.Val {
	roots := vals(m.Out)
	for _, f := range m.Frames {
		roots = slices.Concat(roots, f.Locals, f.Stack)
	}
	return roots
}

// countsOk asks for all numbers but those of values.
func (h hand) countsOk(m impl.Mach) bool {
	if m.Steps < 0 || m.Steps > 200 || len(m.Objs) < 7 || len(m.Objs) > 207 || len(m.Frames) > 4 || len(m.Said) > 200 {
		return false
	}
	for i, o := range m.Objs {
		switch {
		case o.Class == -1 || o.Class == -2:
			if i < 7 || len(o.Vals) > 6 {
				return false
			}
		case o.Class < 0 || o.Class >= len(h.u.Classes) || i < 7 && o.Class != 1 || len(o.Vals) != fieldsByHand(h.u.Classes, o.Class):
			return false
		}
	}
	for _, f := range m.Frames {
		if f.Method < 0 || f.Method >= len(h.u.Methods) || f.At < 0 || f.At > len(h.u.Methods[f.Method].Code) {
			return false
		}
		if len(f.Locals) != h.u.Methods[f.Method].Locals || len(f.Stack) > 4 {
			return false
		}
	}
	return true
}

func wordsOkByHand(m impl.Mach) bool {
	said := heap{}
	for _, n := range m.Said {
		said.roots = append(said.roots, word(n))
	}
	said.roots = append(said.roots, rootsOf(m)...)
	said.objs = m.Objs
	return !slices.ContainsFunc(valuesOf(said), func(v *impl.Val) bool { return !v.Ref && (v.N < -128 || v.N > 127) })
}

func endOkByHand(m impl.Mach) bool {
	running := len(m.Frames) > 0
	return m.End == 0 && running && m.Out == word(0) ||
		m.End == 1 && !running ||
		m.End == 2 && !running && m.Out.Ref && m.Out.N > 0 ||
		m.End == 3 && running && m.Out == word(0)
}

// machOk is MachOk.
func (h hand) machOk(m impl.Mach) bool {
	return h.countsOk(m) && wordsOkByHand(m) && okByHand(heap{m.Objs, rootsOf(m)}) && endOkByHand(m)
}

// typeByHand is of a value of a machine that is ok.
func typeByHand(m impl.Mach, v impl.Val) int {
	if !v.Ref {
		return 1
	}
	if v.N == 0 {
		return 2
	}
	return map[int]int{-1: 3, -2: 4, 0: 8, 1: 9, 2: 10, 3: 11, 4: 12}[m.Objs[v.N-1].Class]
}

// justOf says whether there are as many values as types, each of its own.
func (h hand) justOf(m impl.Mach, list []impl.Val, types []int) bool {
	if len(list) != len(types) {
		return false
	}
	for i, v := range list {
		if !h.in[typeByHand(m, v)][types[i]] {
			return false
		}
	}
	return true
}

func (h hand) thingsFit(m impl.Mach) bool {
	for _, o := range m.Objs {
		var types []int
		switch o.Class {
		case -1:
			types = slices.Repeat([]int{1}, len(o.Vals))
		case -2:
			types = slices.Repeat([]int{8}, len(o.Vals))
		default:
			types = fieldsOf(h.u.Classes, o.Class)
		}
		if !h.justOf(m, o.Vals, types) {
			return false
		}
	}
	return true
}

// leftWaiting is the types that are left on the stack of a call that waits, and the type of what it waits for; false, if it does not call there.
func (h machHand) leftWaiting(method int, at int) ([]int, int, bool) {
	caller := h.u.Methods[method]
	i, s := caller.Code[at], h.all[method][at]
	if i.Kind != impl.InsCall && i.Kind != impl.InsSend {
		return nil, 0, false
	}
	given, _ := h.wanted(caller, i, s)
	return s.Stack[:len(s.Stack)-len(given)], h.comes(caller, i, s)[0], true
}

func (h machHand) framesFit(m impl.Mach) bool {
	for i, f := range m.Frames {
		if f.At == len(h.u.Methods[f.Method].Code) {
			return false
		}
		s := h.all[f.Method][f.At]
		left := s.Stack
		if i < len(m.Frames)-1 {
			less, waitsFor, calls := h.leftWaiting(f.Method, f.At)
			if !calls || !h.in[h.u.Methods[m.Frames[i+1].Method].Out][waitsFor] {
				return false
			}
			left = less
		}
		if !h.justOf(m, f.Locals, s.Locals) || !h.justOf(m, f.Stack, left) {
			return false
		}
	}
	return true
}

// machFits is MachFits.
func (h machHand) machFits(m impl.Mach) bool {
	if !h.passed || !h.machOk(m) || m.End == 3 || !h.thingsFit(m) || !h.framesFit(m) {
		return false
	}
	out := typeByHand(m, m.Out)
	return m.End == 0 || m.End == 1 && out == 1 || m.End == 2 && h.in[out][9]
}
