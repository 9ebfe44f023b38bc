package tests

import (
	"slices"
	"testing"

	"loop.example/entail/impl"
)

// callUnit is passed, and has each way of calling: place 3 of method 0 sends, place 6 calls; what is waited for is of class 2 there, of class 3 here.
func callUnit() impl.Unit {
	first := withCode(plainMethod(-1, 0), ins(impl.InsPush, 5), ins(impl.InsNew, 3), ins(impl.InsPush, 7), ins(impl.InsSend, 2, 1), ins(impl.InsPop),
		ins(impl.InsDup), ins(impl.InsCall, 2), ins(impl.InsPop), ins(impl.InsBack))
	first.Locals = 2
	sent := withOut(withCode(plainMethod(2, 1, impl.TypeInt), ins(impl.InsLoad), ins(impl.InsBack)), impl.TypeClass+2)
	sent.Locals = 3
	called := withOut(withCode(plainMethod(-1, 0, impl.TypeInt), ins(impl.InsNew, 3), ins(impl.InsBack)), impl.TypeClass+3)
	deep := withCode(plainMethod(-1, 0), ins(impl.InsPush, 1), ins(impl.InsCall, 3), ins(impl.InsDo, 1), ins(impl.InsBack))
	return impl.Unit{Classes: knownClasses(), Methods: []impl.Method{first, sent, called, deep}}
}

// passedUnits are as they grow, but for those that are not passed; the first ones call.
func passedUnits(seed int, count int) []impl.Unit {
	all := []impl.Unit{callUnit(), unitOf(twoClasses()), unitOf(knownClasses(), plainMethod(4, 1, impl.TypeRefs))}
	for _, u := range grownUnits(seed, count) {
		if handOf(u).unitPass() {
			all = append(all, u)
		}
	}
	return all
}

// someValOf is of that type in a machine whose things have their classes.
func (d *dice) someValOf(h hand, m impl.Mach, t int) impl.Val {
	var may []impl.Val
	for n := range len(m.Objs) + 1 {
		if h.in[typeByHand(m, ref(n))][t] {
			may = append(may, ref(n))
		}
	}
	if h.in[1][t] {
		may = append(may, word(0), word(d.roll(256)-128), word(impl.IntLow), word(impl.IntHigh))
	}
	return pick(d, may)
}

func (d *dice) someValsOf(h hand, m impl.Mach, types []int) []impl.Val {
	var all []impl.Val
	for _, t := range types {
		all = append(all, d.someValOf(h, m, t))
	}
	return all
}

func (d *dice) someThings(h hand) []impl.Obj {
	m := machOf(nil)
	for range d.roll(10) {
		m.Objs = append(m.Objs, thing(d.roll(len(h.u.Classes)+2)-2))
	}
	for i, o := range m.Objs {
		switch types := fieldsOf(h.u.Classes, max(o.Class, -1)); o.Class {
		case -1:
			m.Objs[i].Vals = d.someValsOf(h, m, slices.Repeat([]int{1}, d.roll(impl.ArrayMax+1)))
		case -2:
			m.Objs[i].Vals = d.someValsOf(h, m, slices.Repeat([]int{8}, d.roll(impl.ArrayMax+1)))
		default:
			m.Objs[i].Vals = d.someValsOf(h, m, types)
		}
	}
	return m.Objs
}

// someCalls are a last call anywhere, and some below it.
func (d *dice) someCalls(h machHand, m impl.Mach) []impl.Frame {
	method := d.roll(len(h.u.Methods))
	return d.callsTo(h, m, method, d.roll(len(h.u.Methods[method].Code)))
}

// callsTo are a last call there, and below it those that may wait for it, as far as there are any.
func (d *dice) callsTo(h machHand, m impl.Mach, method int, at int) []impl.Frame {
	s := h.all[method][at]
	all := []impl.Frame{frame(method, at, d.someValsOf(h.hand, m, s.Locals), d.someValsOf(h.hand, m, s.Stack)...)}
	for range d.roll(impl.FrameMax) {
		var may []impl.Frame
		for k, caller := range h.u.Methods {
			for at := range caller.Code {
				left, waitsFor, calls := h.leftWaiting(k, at)
				if calls && h.in[h.u.Methods[all[0].Method].Out][waitsFor] {
					locals := d.someValsOf(h.hand, m, h.all[k][at].Locals)
					may = append(may, frame(k, at, locals, d.someValsOf(h.hand, m, left)...))
				}
			}
		}
		if len(may) == 0 {
			break
		}
		all = slices.Insert(all, 0, pick(d, may))
	}
	return all
}

// someMach fits a unit that is passed.
func (d *dice) someMach(h machHand) impl.Mach {
	m := impl.Mach{Objs: d.someThings(h.hand), Steps: d.roll(impl.RunMax + 1)}
	for range d.roll(4) {
		m.Said = append(m.Said, d.roll(256)-128)
	}
	switch d.roll(6) {
	case 0:
		m.End, m.Out = impl.EndDone, d.someValOf(h.hand, m, impl.TypeInt)
	case 1:
		m.End = impl.EndThrown
		for m.Out.N == 0 {
			m.Out = d.someValOf(h.hand, m, impl.TypeClass+impl.ClassFail)
		}
	default:
		m.Frames = d.someCalls(h, m)
	}
	return m
}

// eachMach visits machines that fit, so many of each unit that is passed.
func eachMach(seed int, units int, count int, visit func(h machHand, m impl.Mach)) {
	d := &dice{state: uint64(seed)*7919 + 1}
	for _, u := range passedUnits(seed, units) {
		h := machHandOf(u)
		for range count {
			visit(h, d.someMach(h))
		}
	}
}

// What the other tests go by has enough of all.
func TestGrownMachs(t *testing.T) {
	var frames [impl.FrameMax + 1]int
	var ends [3]int
	sends, arrays := 0, 0
	eachMach(1, 200, 20, func(h machHand, m impl.Mach) {
		if !h.machFits(m) {
			t.Fatalf("%v does not fit %v", m, h.u)
		}
		frames[len(m.Frames)]++
		ends[m.End]++
		for _, f := range m.Frames[:max(0, len(m.Frames)-1)] {
			if h.u.Methods[f.Method].Code[f.At].Kind == impl.InsSend {
				sends++
			}
		}
		for _, o := range m.Objs {
			if o.Class < 0 && len(o.Vals) == impl.ArrayMax {
				arrays++
			}
		}
	})
	if slices.Min(frames[:]) < 20 || slices.Min(ends[:]) < 50 || sends < 20 || arrays < 100 {
		t.Error("too few of something", frames, ends, sends, arrays)
	}
}
