package tests

import (
	"reflect"
	"slices"
	"testing"

	"loop.example/entail/impl"
)

func spareMem(m impl.Mem) impl.Mem {
	m.Words, m.Cards = spare(m.Words, spareMark), spare(m.Cards, true)
	return m
}

// wholeMem is a copy of all that is in a memory, also behind the ends of its lists.
func wholeMem(m impl.Mem) impl.Mem {
	m.Words, m.Cards = m.Words[:cap(m.Words)], m.Cards[:cap(m.Cards)]
	return copyMem(m)
}

// overwriteMem writes into both lists, spare room included.
func overwriteMem(m impl.Mem) {
	for i := range m.Words[:cap(m.Words)] {
		m.Words[:cap(m.Words)][i] = spareMark
	}
	for i, set := range m.Cards[:cap(m.Cards)] {
		m.Cards[:cap(m.Cards)][i] = !set
	}
}

// memAnswer is what a function of memories gives back, the parts of others being nothing.
type memAnswer struct {
	mem  impl.Mem
	walk []int
	objs []impl.Obj
}

func (a memAnswer) copied() memAnswer {
	return memAnswer{copyMem(a.mem), slices.Clone(a.walk), copyHeap(heap{objs: a.objs}).objs}
}

func (a memAnswer) equals(b memAnswer) bool {
	return equalMems(a.mem, b.mem) && slices.Equal(a.walk, b.walk) && slices.EqualFunc(a.objs, b.objs, equalThings)
}

func (a memAnswer) overwritten(t *testing.T) {
	t.Helper()
	overwriteMem(a.mem)
	for i := range a.walk[:cap(a.walk)] {
		a.walk[:cap(a.walk)][i] = spareMark
	}
	overwrite(t, heap{objs: a.objs})
	for i := range a.objs[:cap(a.objs)] {
		a.objs[:cap(a.objs)][i] = thing(spareMark)
	}
}

// memAsks ask each function of a memory: also for what there is no room, what is none, and what is there already, so that the memory stays as it is.
func memAsks(cs []impl.Class, m impl.Mem) []func() memAnswer {
	asks := []func() memAnswer{
		func() memAnswer { return memAnswer{walk: impl.MemWalk(cs, m)} },
		func() memAnswer { return memAnswer{objs: impl.MemObjs(cs, m)} },
		func() memAnswer { impl.MemOk(cs, m); return memAnswer{} },
	}
	for _, what := range []madeThing{{0, 0}, {1, 0}, {impl.ClassInts, 6}, {impl.ClassRefs, 1}, {impl.ClassInts, 7}, {-3, 0}} {
		for _, old := range []bool{false, true} {
			asks = append(asks, func() memAnswer {
				behind, _ := impl.MemMake(cs, m, what.class, what.n, old)
				return memAnswer{mem: behind}
			})
		}
	}
	for _, at := range []int{0, 1, 2, m.Young + 1, m.Young + 2} {
		for k := range 3 {
			asks = append(asks, func() memAnswer {
				impl.MemSize(cs, m, at)
				v, _ := impl.MemGet(cs, m, at, k)
				behind, _ := impl.MemPut(cs, m, at, k, v)
				return memAnswer{mem: behind}
			}, func() memAnswer {
				behind, _ := impl.MemPut(cs, m, at, k, 1)
				return memAnswer{mem: behind}
			})
		}
	}
	return asks
}

// overwritable is an answer with lists, of the type A itself.
type overwritable[A any] interface {
	copied() A
	equals(other A) bool
	overwritten(t *testing.T)
}

// mustAnswerApart writes into each answer: no other answer changes by that, and all that was given stays.
func mustAnswerApart[A overwritable[A]](t *testing.T, asks []func() A, mustStay func()) {
	t.Helper()
	for _, ask := range asks {
		one, other := ask(), ask()
		mustStay()
		want := one.copied()
		one.overwritten(t)
		mustStay()
		if !other.equals(want) {
			t.Fatalf("it was %v, and is %v now", want, other)
		}
		other.overwritten(t)
		mustStay()
		if again := ask(); !again.equals(want) {
			t.Fatalf("it was %v, and is %v when asked again", want, again)
		}
	}
}

// eachMemToAsk visits memories that are ok, and such that are not, also by their classes, with marks behind all ends.
func eachMemToAsk(visit func(cs []impl.Class, m impl.Mem)) {
	for _, h := range someMems(12, 120) {
		visit(h.cs, spareMem(h.mem()))
		visit(h.cs, h.mem())
	}
	for _, m := range append(spoiltMems(), putHand().mem(), impl.MemNew(0, 14), impl.MemNew(40, 120)) {
		visit(knownClasses(), spareMem(m))
		visit(twoClasses(), spareMem(m))
	}
	for _, cs := range spoiltClasses() {
		visit(cs, spareMem(putHand().mem()))
	}
	visit(nil, impl.Mem{})
	visit(knownClasses(), impl.Mem{})
}

// Nothing is written into an argument, or behind its end; each list of an answer is memory of its own, also where the memory stays: writing into it changes no argument, no other list, and no other answer.
func TestMemoriesAreNewMemory(t *testing.T) {
	eachMemToAsk(func(first []impl.Class, m impl.Mem) {
		cs, ground := withSpareRoom(first)
		wasGround, was := slices.Clone(ground), wholeMem(m)
		mustStay := func() {
			t.Helper()
			if now := wholeMem(m); !reflect.DeepEqual(now, was) || !slices.Equal(ground, wasGround) || !sameClasses(cs, first) {
				t.Fatalf("%v of %v is %v of %v now", was, first, now, cs)
			}
		}
		mustAnswerApart(t, memAsks(cs, m), mustStay)
	})
}

func TestNewMemoriesAreNewMemory(t *testing.T) {
	for _, parts := range [][2]int{{0, 14}, {40, 120}, {5, 17}, {-1, 14}, {0, 121}} {
		one, other := impl.MemNew(parts[0], parts[1]), impl.MemNew(parts[0], parts[1])
		want := copyMem(other)
		overwriteMem(one)
		if again := impl.MemNew(parts[0], parts[1]); !equalMems(other, want) || !equalMems(again, want) {
			t.Fatalf("it was %v, and is %v and %v now", want, other, again)
		}
	}
}

// What was given back is the argument of the next: it stays as it is, whatever is made and put there.
func TestMemoriesOfMemoriesAreNewMemory(t *testing.T) {
	cs := knownClasses()
	m := impl.MemNew(9, 20)
	for i := range 30 {
		was := wholeMem(m)
		next, _ := impl.MemMake(cs, m, 2, 0, i%2 == 0)
		put, ok := impl.MemPut(cs, next, 10, 1, 1)
		overwriteMem(put)
		thrownAway, _ := impl.MemMake(cs, next, 0, 0, false)
		overwriteMem(thrownAway)
		if now := wholeMem(m); !reflect.DeepEqual(now, was) || ok != (i > 0) {
			t.Fatalf("%v is %v now; %t", was, now, ok)
		}
		m = next
		mustMemOk(t, "made so often", cs, m)
	}
	if m.Top != 9 || m.Old != 27 {
		t.Error(m)
	}
}
