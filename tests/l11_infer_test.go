package tests

import (
	"slices"
	"testing"

	"loop.example/entail/impl"
)

// mustInfer wants just those places told.
func mustInfer(t *testing.T, what string, u impl.Unit, told map[int]impl.Shape) {
	t.Helper()
	mustUnit(t, what, u, true)
	want := make([]impl.Shape, len(u.Methods[0].Code))
	for at, s := range told {
		want[at] = s
	}
	if got := impl.PassInfer(u, 0); !equalLists(got, want) {
		t.Fatalf("%s: PassInfer(%v, 0) is %v, not %v", what, u, got, want)
	}
}

type told = map[int]impl.Shape

// P26: where one jumps, where one catches, and behind what leads nowhere, if one comes there.
func TestKnownInfer(t *testing.T) {
	e, w := shape(nil), shape(nil, 1)
	mustInfer(t, "straight", oneMethod(0, ins(impl.InsPush), ins(impl.InsBack)), nil)
	mustInfer(t, "the first place is a target", oneMethod(0, ins(impl.InsGo)), told{0: e})
	mustInfer(t, "back", oneMethod(0, ins(impl.InsPush), ins(impl.InsPop), ins(impl.InsGo)), told{0: e})
	mustInfer(t, "ahead, and where one never comes", oneMethod(0, ins(impl.InsPush), ins(impl.InsGo, 3), ins(impl.InsPop), ins(impl.InsBack)), told{3: w})
	mustInfer(t, "a target of what one never comes to", oneMethod(0, ins(impl.InsPush), ins(impl.InsBack), ins(impl.InsGo, 1)), told{1: w})
	mustInfer(t, "one never comes to it, nor to its target", oneMethod(0, ins(impl.InsPush), ins(impl.InsBack), ins(impl.InsGo, 3), ins(impl.InsGo, 2)), nil)
	mustInfer(t, "both ways", oneMethod(0, ins(impl.InsNull), ins(impl.InsNil, 4), ins(impl.InsPush), ins(impl.InsBack), ins(impl.InsPush), ins(impl.InsBack)), told{4: e})
	mustInfer(t, "to the next place", oneMethod(0, ins(impl.InsGo, 1), ins(impl.InsPush), ins(impl.InsBack)), told{1: e})
	mustInfer(t, "behind what is thrown", oneMethod(0, ins(impl.InsNull), ins(impl.InsThrow), ins(impl.InsPush), ins(impl.InsBack)), nil)
	mustInfer(t, "one jumps behind what is thrown", oneMethod(0, ins(impl.InsNull), ins(impl.InsNil, 4), ins(impl.InsNew, 4), ins(impl.InsThrow), ins(impl.InsPush), ins(impl.InsBack)), told{4: e})
	mustInfer(t, "the last place leads on", oneMethod(0, ins(impl.InsPush), ins(impl.InsPop)), nil)
	mustInfer(t, "the last place leads on, and back", oneMethod(0, ins(impl.InsNull), ins(impl.InsNil)), told{0: e})
	mustInfer(t, "the last place is alone", oneMethod(0, ins(impl.InsPush)), nil)
}

// From where PassStep is false one comes no further, but what is caught there is caught.
func TestKnownInferWhereItIsWrong(t *testing.T) {
	e := shape(nil)
	u := oneMethod(0, ins(impl.InsPop), ins(impl.InsGo, 1), ins(impl.InsPush), ins(impl.InsBack))
	mustInfer(t, "the first is wrong", u, nil)
	mustInfer(t, "the first is wrong, and caught from", catching(u, impl.Catch{To: 1, At: 2, Class: 4}), told{2: shape(nil, 12)})
	mustInfer(t, "the jump is wrong", oneMethod(0, ins(impl.InsPush), ins(impl.InsNil, 0), ins(impl.InsGo, 2)), told{0: e})
	mustInfer(t, "the stack is full", oneMethod(0, ins(impl.InsPush), ins(impl.InsPush), ins(impl.InsPush), ins(impl.InsPush), ins(impl.InsPush), ins(impl.InsGo, 5)), nil)
	mustInfer(t, "the stack is not full", oneMethod(0, ins(impl.InsPush), ins(impl.InsPush), ins(impl.InsPush), ins(impl.InsPush), ins(impl.InsGo, 4)), told{4: shape(nil, 1, 1, 1, 1)})
}

// Two ways to one place: what comes first stays, if there is no join.
func TestKnownInferTwoWays(t *testing.T) {
	two := func(first []impl.Ins, second []impl.Ins, locals int) impl.Unit {
		// One comes to the last place by a jump from behind first, then from behind second, to which the second instruction leads.
		code := slices.Concat([]impl.Ins{ins(impl.InsNull), ins(impl.InsNil, 3+len(first))}, first)
		last := len(code) + 1 + len(second)
		return oneMethod(locals, slices.Concat(code, []impl.Ins{ins(impl.InsGo, last)}, second, []impl.Ins{ins(impl.InsGo, last)})...)
	}
	push, null := []impl.Ins{ins(impl.InsPush)}, []impl.Ins{ins(impl.InsNull)}
	store := func(first impl.Ins) []impl.Ins { return []impl.Ins{first, ins(impl.InsStore)} }
	mustInfer(t, "the same", two(push, push, 0), told{4: shape(nil), 5: shape(nil, 1)})
	mustInfer(t, "a word, then none: no join", two(push, null, 0), told{4: shape(nil), 5: shape(nil, 1)})
	mustInfer(t, "none, then a word: no join", two(null, push, 0), told{4: shape(nil), 5: shape(nil, 2)})
	mustInfer(t, "more on the stack: no join", two(push, []impl.Ins{ins(impl.InsPush), ins(impl.InsPop)}, 0), told{4: shape(nil), 6: shape(nil, 1)})
	mustInfer(t, "less on the stack: no join", two(nil, push, 0), told{3: shape(nil), 4: shape(nil)})
	mustInfer(t, "a class above", two([]impl.Ins{ins(impl.InsNew, 3)}, []impl.Ins{ins(impl.InsNew, 2)}, 0), told{4: shape(nil), 5: shape(nil, 10)})
	mustInfer(t, "the root", two([]impl.Ins{ins(impl.InsNew, 3)}, []impl.Ins{ins(impl.InsNew, 4)}, 0), told{4: shape(nil), 5: shape(nil, 8)})
	mustInfer(t, "the local has no type", two(store(ins(impl.InsPush)), store(ins(impl.InsNull)), 1), told{5: shape([]int{0}), 7: shape([]int{0})})
	mustInfer(t, "the local has a type", two(store(ins(impl.InsNew, 1)), store(ins(impl.InsNew, 4)), 1), told{5: shape([]int{0}), 7: shape([]int{9})})
	mustInfer(t, "the local is stored on one way", two(store(ins(impl.InsPush)), []impl.Ins{ins(impl.InsPush), ins(impl.InsPop)}, 1), told{5: shape([]int{0}), 7: shape([]int{0})})
}

// A loop changes the shape of its first place twice: by what is in its second local, then by what was in its third.
func TestKnownInferLoop(t *testing.T) {
	u := oneMethod(3, ins(impl.InsNew, 4), ins(impl.InsStore, 0), ins(impl.InsNew, 1), ins(impl.InsStore, 1), ins(impl.InsPush), ins(impl.InsArr), ins(impl.InsStore, 2),
		ins(impl.InsLoad, 1), ins(impl.InsStore, 0), ins(impl.InsLoad, 2), ins(impl.InsStore, 1), ins(impl.InsGo, 7))
	mustInfer(t, "twice", u, told{7: shape([]int{8, 8, 3})})
	u.Methods[0].Shapes = impl.PassInfer(u, 0)
	mustUnitPass(t, "the loop", u, true)
	u.Methods[0].Shapes[7].Locals[0] = 9
	mustUnitPass(t, "once", u, false)
	// A word in the third local leaves the second one without a type, so that it cannot be loaded again.
	u.Methods[0].Code[5] = ins(impl.InsDup)
	u.Methods[0].Code[6] = ins(impl.InsStore, 2)
	u.Methods[0].Shapes = make([]impl.Shape, impl.CodeMax)
	mustInfer(t, "a word more on the stack", u, told{7: shape([]int{9, 0, 1}, 1)})
}

// One goes back place by place, each time a round later, up to the longest code.
func TestKnownInferBackAgainAndAgain(t *testing.T) {
	for size := 2; size <= impl.CodeMax; size++ {
		code := []impl.Ins{ins(impl.InsGo, size-1), ins(impl.InsGo, 1)}
		all := told{size - 1: shape([]int{0})}
		for at := 2; at < size; at++ {
			code = append(code, ins(impl.InsGo, at-1))
			all[at-1] = shape([]int{0})
		}
		mustInfer(t, "back again and again", oneMethod(1, code...), all)
	}
}

// What is stored in a range is caught ahead of it, and behind.
func TestKnownInferCatches(t *testing.T) {
	u := oneMethod(1, ins(impl.InsPush), ins(impl.InsStore), ins(impl.InsNull), ins(impl.InsStore), ins(impl.InsPush), ins(impl.InsBack), ins(impl.InsThrow))
	all := []int{0, 0, 1, 1, 2, 2}
	in := inByHand(u.Classes)
	for from := range 6 {
		for to := from + 1; to <= 6; to++ {
			local := all[from]
			for _, other := range all[from:to] {
				if !in[other][local] {
					local = 0
				}
			}
			for _, class := range []int{1, 4} {
				mustInfer(t, "one range", catching(u, impl.Catch{From: from, To: to, At: 6, Class: class}), told{6: shape([]int{local}, 8+class)})
			}
		}
	}
	mustInfer(t, "no catch", u, nil)
	mustInfer(t, "one never comes there", catching(u, impl.Catch{From: 6, To: 7, At: 6, Class: 1}), nil)
	mustInfer(t, "one comes to it only", catching(u, impl.Catch{From: 6, To: 7, At: 4, Class: 1}), told{4: shape([]int{2})})
	mustInfer(t, "two classes", catching(u, impl.Catch{From: 2, To: 3, At: 6, Class: 4}, impl.Catch{From: 3, To: 4, At: 6, Class: 1}), told{6: shape([]int{1}, 9)})
	mustInfer(t, "at the first place there is no join", catching(u, impl.Catch{From: 2, To: 3, At: 0, Class: 1}), told{0: shape([]int{0})})
	mustInfer(t, "what is caught comes first", catching(u, impl.Catch{From: 0, To: 1, At: 2, Class: 1}), told{2: shape([]int{0}, 9)})
}

// The order in which what is caught, then by A, then to the next place, is brought counts, where there is no join.
func TestKnownInferOrder(t *testing.T) {
	u := oneMethod(0, ins(impl.InsNull), ins(impl.InsNil, 2), ins(impl.InsGo, 2))
	mustInfer(t, "by A and to the next place", u, told{2: shape(nil)})
	mustInfer(t, "what is caught, then what goes on", catching(u, impl.Catch{From: 1, To: 2, At: 2, Class: 1}), told{2: shape(nil, 9)})
	mustInfer(t, "what goes on from a place ahead of where it is caught", catching(u, impl.Catch{From: 2, To: 3, At: 2, Class: 1}), told{2: shape(nil)})
	one, two := impl.Catch{From: 1, To: 2, At: 2, Class: 4}, impl.Catch{From: 1, To: 2, At: 2, Class: 1}
	mustInfer(t, "two catches join", catching(u, one, two), told{2: shape(nil, 9)})
	back := oneMethod(1, ins(impl.InsPush), ins(impl.InsGo, 3), ins(impl.InsGo, 4), ins(impl.InsGo, 2), ins(impl.InsBack))
	mustInfer(t, "back, then ahead", back, told{2: shape([]int{0}, 1), 3: shape([]int{0}, 1), 4: shape([]int{0}, 1)})
}

// What a place brings is all by the shape that it had when its turn came, also if what is caught there is caught at the place itself.
func TestKnownInferCaughtAtItsOwnPlace(t *testing.T) {
	u := oneMethod(0, ins(impl.InsPush), ins(impl.InsArr), ins(impl.InsLen), ins(impl.InsBack), ins(impl.InsGo, 3))
	mustInfer(t, "not caught", u, told{3: shape(nil, 1)})
	mustInfer(t, "caught at its own place", catching(u, impl.Catch{From: 2, To: 3, At: 2, Class: 1}), told{2: shape(nil, 8), 3: shape(nil, 1)})
	mustInfer(t, "caught ahead of it", catching(u, impl.Catch{From: 1, To: 2, At: 2, Class: 1}), told{2: shape(nil, 8)})
}

func mustInferAsByHand(t *testing.T, h hand, u impl.Unit, k int) []impl.Shape {
	t.Helper()
	got, want := impl.PassInfer(u, k), h.infer(u.Methods[k])
	if !equalLists(got, want) {
		t.Fatalf("PassInfer(%v, %d) is %v, not %v", u, k, got, want)
	}
	return got
}

// P26, P28, P29: all small methods.
func TestSmallInferByHand(t *testing.T) {
	for size := 1; size <= 3; size++ {
		var h hand
		eachSmall(size, func(u impl.Unit) {
			if h.in == nil {
				h = handOf(u)
			}
			mustInferAsByHand(t, h, u, 0)
		})
	}
}

// P26 to P29.
func TestGrownInferByHand(t *testing.T) {
	for _, u := range slices.Concat(someUnits(), grownUnits(12, 600)) {
		h := handOf(u)
		for k := range u.Methods {
			mustInferAsByHand(t, h, u, k)
		}
	}
}

// P26, P27: codes of any instructions, with any catches, most of which are wrong somewhere.
func TestAnyInferByHand(t *testing.T) {
	d := &dice{state: 77}
	toldOf := 0
	for range 3000 {
		u := growHeads(d)
		k := d.roll(len(u.Methods))
		m := withPops(u.Methods[k], 1+d.roll(impl.CodeMax))
		list := instructionList(u, m)
		for at := range m.Code {
			m.Code[at] = pick(d, pick(d, list))
		}
		for range d.roll(3) {
			from := d.roll(len(m.Code))
			m.Catches = append(m.Catches, impl.Catch{From: from, To: from + 1 + d.roll(len(m.Code)-from), At: d.roll(len(m.Code)), Class: 1})
		}
		u.Methods[k] = m
		for _, s := range mustInferAsByHand(t, handOf(u), u, k) {
			if s.Any {
				toldOf++
			}
		}
	}
	if toldOf < 1000 {
		t.Error("too few are told", toldOf)
	}
}

// comesTo is the places to which ways lead from the first on.
func comesTo(u impl.Unit, k int) []bool {
	m := u.Methods[k]
	comes := make([]bool, len(m.Code))
	todo := []int{0}
	for len(todo) > 0 {
		at := todo[0]
		todo = todo[1:]
		if at == len(m.Code) || comes[at] {
			continue
		}
		comes[at] = true
		if jumping(m.Code[at].Kind) {
			todo = append(todo, m.Code[at].A)
		}
		if goesOn(m.Code[at].Kind) {
			todo = append(todo, at+1)
		}
		for _, c := range m.Catches {
			if c.From <= at && at < c.To {
				todo = append(todo, c.At)
			}
		}
	}
	return comes
}

// P26, by its own words; in a method that is passed one comes to each place to which ways lead, in others to no more.
func TestInferTellsWhereItMay(t *testing.T) {
	never := 0
	passed := eachPassed(13, 400, func(u impl.Unit, k int, m impl.Method, all []impl.Shape) {
		comes, may := comesTo(u, k), mayTell(m)
		for at, s := range impl.PassInfer(u, k) {
			if s.Any != (may[at] && comes[at]) || !s.Any && !isNothing(s) {
				t.Fatalf("%v, %d: at %d %v is told", u, k, at, s)
			}
			if !comes[at] {
				never++
			}
		}
	})
	if passed < 400 || never < 20 {
		t.Error("too few", passed, never)
	}
	for _, u := range grownUnits(14, 400) {
		for k, m := range u.Methods {
			comes, may := comesTo(u, k), mayTell(m)
			for at, s := range impl.PassInfer(u, k) {
				if s.Any && !(may[at] && comes[at]) {
					t.Fatalf("%v, %d: at %d %v is told", u, k, at, s)
				}
			}
		}
	}
}

// P27.
func TestInferIsTheSameWhateverIsTold(t *testing.T) {
	d := &dice{state: 41}
	for _, u := range slices.Concat(someUnits(), grownUnits(15, 200)) {
		for k, m := range u.Methods {
			was := impl.PassInfer(u, k)
			for turn := range 5 {
				other := copyUnit(u)
				for at := range m.Code {
					other.Methods[k].Shapes[at] = impl.Shape{}
					if turn > 0 && d.roll(turn) == 0 {
						other.Methods[k].Shapes[at] = d.someShape(u.Classes, m.Locals, d.roll(impl.StackMax+1))
					}
				}
				mustUnit(t, "told otherwise", other, true)
				if now := impl.PassInfer(other, k); !equalLists(now, was) {
					t.Fatalf("PassInfer(%v, %d) is %v, not %v", other, k, now, was)
				}
			}
		}
	}
}

// raised is a copy of the unit whose method tells a higher type here and there.
func raised(d *dice, u impl.Unit, k int) impl.Unit {
	h := handOf(u)
	u = copyUnit(u)
	for _, s := range u.Methods[k].Shapes {
		for _, list := range [][]int{s.Locals, s.Stack} {
			for i, low := range list {
				if high := pick(d, allTypes(u.Classes)); h.in[low][high] {
					list[i] = high
				}
			}
		}
	}
	return u
}

// P28, P29, by their own words, also of methods that tell more than what is inferred.
func TestInferIsTheLeast(t *testing.T) {
	d := &dice{state: 12}
	higher, told := 0, 0
	for _, u := range grownUnits(16, 600) {
		for k := range u.Methods {
			for turn := range 3 {
				other := u
				if turn > 0 {
					other = raised(d, u, k)
				}
				all, ok := impl.PassShapes(other, k)
				if !ok {
					continue
				}
				if turn > 0 && !equalLists(other.Methods[k].Shapes, u.Methods[k].Shapes) {
					higher++
				}
				told += mustBeLeast(t, other, k, all)
			}
		}
	}
	if higher < 50 || told < 100 {
		t.Error("too few", higher, told)
	}
}

// mustBeLeast says how many shapes are told where PassInfer tells something wherever it may.
func mustBeLeast(t *testing.T, u impl.Unit, k int, all []impl.Shape) int {
	t.Helper()
	inferred := impl.PassInfer(u, k)
	wherever, told := true, 0
	for at, may := range mayTell(u.Methods[k]) {
		if inferred[at].Any {
			told++
			if !impl.ShapeIn(u.Classes, inferred[at], all[at]) {
				t.Fatalf("%v, %d: at %d %v is inferred, which is not in %v", u, k, at, inferred[at], all[at])
			}
		} else if may {
			wherever = false
		}
	}
	if !wherever {
		return 0
	}
	with := copyUnit(u)
	with.Methods[k].Shapes = inferred
	if _, ok := impl.PassShapes(with, k); !ok {
		t.Fatalf("%v, %d is not passed with what is inferred", with, k)
	}
	return told
}
