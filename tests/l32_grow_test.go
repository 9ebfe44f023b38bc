package tests

import (
	"slices"
	"sync"
	"testing"

	"loop.example/entail/impl"
)

// ringUnit puts new things into an array of three by turn, for ever: past the end something is thrown, and caught; it says where it put each.
func ringUnit() impl.Unit {
	u := oneMethod(2, ins(impl.InsPush, 3), ins(impl.InsArr, 1), ins(impl.InsStore, 0), ins(impl.InsPush, 0), ins(impl.InsStore, 1), ins(impl.InsLoad, 0), ins(impl.InsLoad, 1),
		ins(impl.InsCall, 1), ins(impl.InsStore, 1), ins(impl.InsGo, 5), ins(impl.InsPop), ins(impl.InsGo, 3))
	put := withCode(plainMethod(-1, 0, impl.TypeRefs, impl.TypeInt), ins(impl.InsLoad, 0), ins(impl.InsLoad, 1), ins(impl.InsNew, 3), ins(impl.InsSet, 1), ins(impl.InsLoad, 1), ins(impl.InsSay),
		ins(impl.InsLoad, 1), ins(impl.InsPush, 1), ins(impl.InsDo, impl.OpAdd), ins(impl.InsBack))
	u.Methods = append(u.Methods, put)
	return inferred(catching(u, impl.Catch{From: 5, To: 9, At: 10, Class: 1}))
}

// towerUnit has calls that wait, each with a new thing twice on its stack, till there are too many; what is thrown then, and where there is no room, is caught by the one that waits. It keeps the last tower, and makes the next one.
func towerUnit() impl.Unit {
	u := oneMethod(1, ins(impl.InsNull), ins(impl.InsStore), ins(impl.InsCall, 1), ins(impl.InsStore), ins(impl.InsPush, 1), ins(impl.InsSay), ins(impl.InsGo, 2))
	floor := withOut(withCode(plainMethod(-1, 0), ins(impl.InsNew, 3), ins(impl.InsDup), ins(impl.InsCall, 1), ins(impl.InsPut, 2, 1), ins(impl.InsBack), ins(impl.InsPop), ins(impl.InsNull), ins(impl.InsBack)), impl.TypeClass+3)
	floor.Catches = []impl.Catch{{From: 2, To: 3, At: 5, Class: 1}}
	u.Methods = append(u.Methods, floor)
	return inferred(u)
}

// untilShortUnit makes things that lead to each other till there is no room, catches that in the same call, says what it caught, and begins again.
func untilShortUnit() impl.Unit {
	u := oneMethod(1, ins(impl.InsNull), ins(impl.InsStore), ins(impl.InsNew, 3), ins(impl.InsDup), ins(impl.InsLoad), ins(impl.InsPut, 2, 1), ins(impl.InsStore), ins(impl.InsGo, 2),
		ins(impl.InsGet, 1, 0), ins(impl.InsSay), ins(impl.InsGo, 0))
	return inferred(catching(u, impl.Catch{From: 2, To: 3, At: 8, Class: 1}))
}

// thrownUnit throws new things that lead to others, catches them, and looks into them, for ever.
func thrownUnit() impl.Unit {
	u := oneMethod(1, ins(impl.InsNew, 4), ins(impl.InsDup), ins(impl.InsNew, 2), ins(impl.InsPut, 4, 1), ins(impl.InsThrow), ins(impl.InsCast, 4), ins(impl.InsGet, 4, 1), ins(impl.InsStore), ins(impl.InsGo, 0))
	return inferred(catching(u, impl.Catch{From: 0, To: 5, At: 5, Class: 1}))
}

// sizesUnit makes arrays of 0 to ArrayMax words, of one more, which is thrown, and caught, and begins again.
func sizesUnit() impl.Unit {
	u := oneMethod(2, ins(impl.InsPush, 0), ins(impl.InsStore, 0), ins(impl.InsLoad, 0), ins(impl.InsArr, 0), ins(impl.InsStore, 1), ins(impl.InsLoad, 0), ins(impl.InsPush, 1),
		ins(impl.InsDo, impl.OpAdd), ins(impl.InsStore, 0), ins(impl.InsGo, 2), ins(impl.InsPop), ins(impl.InsGo, 0))
	return inferred(catching(u, impl.Catch{From: 3, To: 4, At: 10, Class: 1}))
}

// nestUnit makes an array that leads to the one that it made before, for ever.
func nestUnit() impl.Unit {
	return inferred(oneMethod(1, ins(impl.InsPush, 0), ins(impl.InsArr, 1), ins(impl.InsStore), ins(impl.InsPush, 1), ins(impl.InsArr, 1), ins(impl.InsDup), ins(impl.InsPush, 0),
		ins(impl.InsLoad), ins(impl.InsSet, 1), ins(impl.InsStore), ins(impl.InsGo, 3)))
}

// endUnit ends with a thing that it made, and that nobody catches; it has said 9.
func endUnit() impl.Unit {
	return inferred(oneMethod(0, ins(impl.InsNew, 2), ins(impl.InsPop), ins(impl.InsPush, 9), ins(impl.InsSay), ins(impl.InsNew, 4), ins(impl.InsDup), ins(impl.InsPush, 9), ins(impl.InsPut, 1, 0), ins(impl.InsThrow)))
}

// markUnit puts a word into what was thrown by 0, and gives back what is in it when that is thrown again.
func markUnit() impl.Unit {
	u := oneMethod(0, ins(impl.InsPush, 1), ins(impl.InsPush, 0), ins(impl.InsDo, impl.OpDiv), ins(impl.InsBack), ins(impl.InsPush, 88), ins(impl.InsPut, 1, 0), ins(impl.InsNew, 4), ins(impl.InsPop), ins(impl.InsCall, 1), ins(impl.InsBack))
	again := withCode(plainMethod(-1, 0), ins(impl.InsPush, 5), ins(impl.InsPush, 0), ins(impl.InsDo, impl.OpDiv), ins(impl.InsBack), ins(impl.InsGet, 1, 0), ins(impl.InsBack))
	again.Catches = []impl.Catch{{From: 2, To: 3, At: 4, Class: 1}}
	u.Methods = append(u.Methods, again)
	return inferred(catching(u, impl.Catch{From: 0, To: 4, At: 4, Class: 1}))
}

func keepingUnits() []impl.Unit {
	return []impl.Unit{ringUnit(), towerUnit(), untilShortUnit(), thrownUnit(), sizesUnit(), nestUnit(), endUnit(), markUnit(), listUnit()}
}

// Where a round of a churn begins, and how long its own part is.
const (
	roundAt   = 2
	roundSize = 7
)

// churnHeads is a unit whose method 0 goes round, for ever, whatever is thrown; the part of a round that is its own is still to be filled. Local 0 leads to a thing of class 3, or to nothing; the others are of no type where a round begins.
func churnHeads() impl.Unit {
	code := slices.Concat([]impl.Ins{ins(impl.InsNull), ins(impl.InsStore)}, slices.Repeat([]impl.Ins{ins(impl.InsPop)}, roundSize), []impl.Ins{ins(impl.InsGo, roundAt), ins(impl.InsPop), ins(impl.InsGo, roundAt)})
	u := oneMethod(3, code...)
	linked := withOut(withCode(plainMethod(-1, 0, impl.TypeClass+3), ins(impl.InsNew, 3), ins(impl.InsDup), ins(impl.InsLoad), ins(impl.InsPut, 2, 1), ins(impl.InsBack)), impl.TypeClass+3)
	pair := withOut(withCode(plainMethod(2, 0), ins(impl.InsPush, 2), ins(impl.InsArr, 1), ins(impl.InsDup), ins(impl.InsPush, 1), ins(impl.InsLoad), ins(impl.InsSet, 1), ins(impl.InsBack)), impl.TypeRefs)
	told := withCode(plainMethod(-1, 0, impl.TypeInt), ins(impl.InsLoad), ins(impl.InsSay), ins(impl.InsLoad), ins(impl.InsBack))
	u.Methods = append(u.Methods, linked, pair, told)
	round := shape([]int{impl.TypeClass + 3, impl.TypeNone, impl.TypeNone})
	u = tell(tell(u, roundAt, round), len(code)-2, shape(round.Locals, impl.TypeClass+impl.ClassFail))
	return catching(u, impl.Catch{From: roundAt, To: roundAt + roundSize, At: len(code) - 2, Class: impl.ClassFail})
}

// someRound is a round of instructions that leave what was there when it began; false, if these do not.
func (d *dice) someRound(h hand, lists [][]impl.Ins) ([]impl.Ins, bool) {
	first := h.u.Methods[0]
	round := first.Shapes[roundAt]
	var code []impl.Ins
	comes := round
	for range roundSize {
		i := pick(d, pick(d, lists))
		behind, ok := h.step(first, i, comes)
		for tries := 0; !ok && tries < 30; tries++ {
			i = pick(d, pick(d, lists))
			behind, ok = h.step(first, i, comes)
		}
		if !ok {
			return nil, false
		}
		code, comes = append(code, i), behind
	}
	return code, h.shapeIn(comes, round)
}

// roundLists is what may stand in a round, each kind as often as any other; it jumps only to where the next round begins.
func roundLists(u impl.Unit) [][]impl.Ins {
	var all [][]impl.Ins
	for _, list := range instructionList(u, u.Methods[0]) {
		list = slices.DeleteFunc(list, func(i impl.Ins) bool { return !goesOn(i.Kind) || jumping(i.Kind) && i.A != roundAt })
		if len(list) > 0 {
			all = append(all, list)
		}
	}
	return all
}

// churns says whether a unit makes things, round by round, and leads to some of them at times.
func churns(u impl.Unit) bool {
	m := impl.MachRun(u, 60)
	if len(m.Objs) < impl.FaultRoom+5 {
		return false
	}
	most := 0
	for range 12 {
		most = max(most, len(impl.MachView(u, m).Objs))
		m = impl.MachStep(u, m)
	}
	return most >= impl.FaultRoom+3
}

// allChurns are passed, and go round till their steps are made; they are looked for once.
var allChurns = sync.OnceValue(func() []impl.Unit {
	d := &dice{state: 79195}
	h := handOf(churnHeads())
	lists := roundLists(h.u)
	var all []impl.Unit
	for len(all) < 150 {
		code, ok := d.someRound(h, lists)
		if !ok {
			continue
		}
		u := copyUnit(h.u)
		copy(u.Methods[0].Code[roundAt:], code)
		if handOf(u).unitPass() && churns(u) {
			all = append(all, u)
		}
	}
	return all
})

// churnUnits are so many of them, from one of them on.
func churnUnits(from int, count int) []impl.Unit {
	var all []impl.Unit
	for i := range count {
		all = append(all, copyUnit(allChurns()[(from+i)%len(allChurns())]))
	}
	return all
}

// inMemoryUnits are passed; most of them make things for as long as they run.
func inMemoryUnits(from int, count int) []impl.Unit {
	return slices.Concat(keepingUnits(), leavingUnits(), churnUnits(from, count))
}

// caughtByCallers has calls that wait catch what is thrown above them: those of the class above all that may be thrown, or of one below.
func caughtByCallers(u impl.Unit, class int) impl.Unit {
	u = copyUnit(u)
	for k := 1; k < len(u.Methods); k++ {
		m := &u.Methods[k]
		at := slices.IndexFunc(m.Code, func(i impl.Ins) bool { return i.Kind == impl.InsCall || i.Kind == impl.InsSend })
		m.Catches = []impl.Catch{{From: at, To: at + 1, At: len(m.Code), Class: class}}
		m.Code = append(m.Code, ins(impl.InsGet, class, 0), ins(impl.InsBack))
		m.Shapes = make([]impl.Shape, len(m.Code))
		m.Shapes = handOf(u).infer(*m)
	}
	return copyUnit(u)
}

// eachCaughtVm visits machines at an instruction, whose calls that wait catch what it throws.
func eachCaughtVm(seed int, kinds []int, units int, count int, visit func(h vmHand)) {
	d := &dice{state: uint64(seed)*104729 + 13}
	for _, kind := range kinds {
		for range units {
			own := machHandOf(caughtByCallers(d.hostUnit(kind), pick(d, []int{1, 1, 4})))
			for range count {
				if h, room := d.laidIn(own, d.hostMach(own), d.roll(16), impl.OldMin+d.roll(12)); room {
					visit(h)
				}
			}
		}
	}
}

// someParts are the smallest, the greatest, none that is young, and others, the small ones more often.
func (d *dice) someParts() (int, int) {
	young := pick(d, []int{0, 0, d.roll(8), d.roll(16), d.roll(41), impl.YoungMax})
	old := pick(d, []int{impl.OldMin, impl.OldMin + d.roll(10), impl.OldMin + d.roll(24), impl.OldMin + d.roll(40), impl.OldMin + d.roll(107), impl.OldMax})
	return young, old
}

// someForced are kinds to be moved ahead of each step: of none, of one kind, of any, and of such that are none; fewer than there are steps, as many, and more.
func (d *dice) someForced() []int {
	size := pick(d, []int{0, 1, d.roll(20), d.roll(200), impl.RunMax, impl.RunMax + 30})
	kinds := pick(d, [][]int{{0}, {1}, {2}, {1, 2}, {0, 0, 0, 1}, {0, 0, 0, 0, 0, 0, 2}, {-1, 0, 1, 2, 3, pick(d, farInts())}})
	var forced []int
	for range size {
		forced = append(forced, pick(d, kinds))
	}
	return forced
}

// What the other tests go by is passed, and makes, and keeps, and leaves enough.
func TestUnitsThatKeepThings(t *testing.T) {
	var kinds [impl.InsSay + 1]int
	ends := map[int]int{}
	made := 0
	for _, u := range inMemoryUnits(0, 150) {
		mustUnitPass(t, "keeping things", u, true)
		for _, i := range u.Methods[0].Code {
			kinds[i.Kind]++
		}
		m := impl.MachRun(u, impl.RunMax)
		ends[m.End]++
		made += len(m.Objs) - impl.FaultRoom
	}
	if ends[impl.EndNot] < 130 || ends[impl.EndThrown] == 0 || ends[impl.EndDone] == 0 || made < 3000 {
		t.Error("too few of something", ends, made)
	}
	for kind := impl.InsPush; kind <= impl.InsSay; kind++ {
		if kinds[kind] == 0 {
			t.Error("there is none of a kind", kind, kinds)
		}
	}
}

// What is thrown by room that is short never is where there is room for everything.
func TestKnownKeepingRuns(t *testing.T) {
	for _, c := range []struct {
		what string
		u    impl.Unit
		end  int
		said []int
	}{
		{"ring", ringUnit(), impl.EndNot, []int{0, 1, 2, 0, 1, 2}},
		{"tower", towerUnit(), impl.EndNot, []int{1, 1, 1, 1, 1, 1}},
		{"until it is short", untilShortUnit(), impl.EndNot, nil},
		{"thrown", thrownUnit(), impl.EndNot, nil},
		{"sizes", sizesUnit(), impl.EndNot, nil},
		{"nest", nestUnit(), impl.EndNot, nil},
		{"end", endUnit(), impl.EndThrown, []int{9}},
		{"mark", markUnit(), impl.EndDone, nil},
	} {
		m := impl.MachRun(c.u, impl.RunMax)
		if m.End != c.end || !slices.Equal(m.Said[:min(6, len(m.Said))], c.said) {
			t.Errorf("%s: %v", c.what, m)
		}
	}
	if m := impl.MachRun(markUnit(), impl.RunMax); m.Out != word(88) {
		t.Error(m)
	}
}
