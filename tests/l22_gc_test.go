package tests

import (
	"slices"
	"testing"

	"loop.example/entail/impl"
)

// seen is the things to which roots lead, and the roots, in the order in which one comes to them: it tells nothing of where they are.
func seen(t *testing.T, cs []impl.Class, m impl.Mem, roots []int) heap {
	t.Helper()
	walk := impl.MemWalk(cs, m)
	h := heap{objs: impl.MemObjs(cs, m)}
	for _, at := range roots {
		i := slices.Index(walk, at)
		if at != 0 && i < 0 {
			t.Fatalf("a root leads to %d of %v, where none begins", at, m)
		}
		h.roots = append(h.roots, ref(i+1))
	}
	return graphOf(h)
}

func mustSeeTheSame(t *testing.T, what string, cs []impl.Class, m impl.Mem, roots []int, behind impl.Mem, then []int) {
	t.Helper()
	mustMemOk(t, what, cs, behind)
	if was, now := seen(t, cs, m, roots), seen(t, cs, behind, then); !equalHeaps(was, now) {
		t.Fatalf("%s: of %v, from %v, one sees %v, and not %v any more: %v, from %v", what, m, roots, now, was, behind, then)
	}
}

// mustLeadAlike is P77.
func mustLeadAlike(t *testing.T, roots []int, then []int) {
	t.Helper()
	if len(roots) != len(then) {
		t.Fatalf("roots were %v, and are %v", roots, then)
	}
	for i, a := range roots {
		if (a == 0) != (then[i] == 0) {
			t.Fatalf("roots were %v, and are %v: %d leads nowhere", roots, then, i)
		}
		for j, b := range roots {
			if (a == b) != (then[i] == then[j]) {
				t.Fatalf("roots were %v, and are %v: %d and %d", roots, then, i, j)
			}
		}
	}
}

// mustBeMoved asks what is so behind GcMinor and behind GcMajor.
func mustBeMoved(t *testing.T, m impl.Mem, behind impl.Mem) {
	t.Helper()
	if behind.Young != m.Young || len(behind.Words) != len(m.Words) || len(behind.Cards) != len(m.Cards) {
		t.Fatalf("of %v another one is made: %v", m, behind)
	}
	if behind.Top != 0 || slices.Contains(behind.Cards, true) || slices.ContainsFunc(behind.Words[:behind.Young], isNotZero) {
		t.Fatalf("the young part is not empty, or a card is set: %v", behind)
	}
}

func isNotZero(n int) bool {
	return n != 0
}

// sizesIn is how many words all things at those places have.
func sizesIn(cs []impl.Class, m impl.Mem, places []int) int {
	sum := 0
	for _, at := range places {
		sum += impl.MemSize(cs, m, at)
	}
	return sum
}

// mustHoldLive is P67, by what the program says of the memory alone.
func mustHoldLive(t *testing.T, r rooted) {
	t.Helper()
	m := r.mem()
	live := impl.GcLive(r.cs, m, r.rootPlaces())
	if !slices.Equal(live, r.livePlaces()) {
		t.Fatalf("live in %v, from %v, are %v, not %v", m, r.rootPlaces(), live, r.livePlaces())
	}
	for i, at := range live {
		if i > 0 && live[i-1] >= at {
			t.Fatalf("%v is not ascending", live)
		}
	}
	// All that is led to is among them; that there are no more of them than one sees makes it just these.
	led := r.rootPlaces()
	walk, objs := impl.MemWalk(r.cs, m), impl.MemObjs(r.cs, m)
	for _, at := range live {
		for _, v := range objs[slices.Index(walk, at)].Vals {
			if v.Ref && v.N > 0 {
				led = append(led, walk[v.N-1])
			}
		}
	}
	for _, at := range led {
		if at != 0 && !slices.Contains(live, at) {
			t.Fatalf("%d of %v is led to, but live are %v", at, m, live)
		}
	}
	if graph := seen(t, r.cs, m, r.rootPlaces()); len(graph.objs) != len(live) {
		t.Fatalf("of %v one sees %d things, but live are %v", m, len(graph.objs), live)
	}
}

// mustHoldMinor is GcMinor by hand, and P68, P69, P72 and P77; it says whether there was room.
func mustHoldMinor(t *testing.T, r rooted) bool {
	t.Helper()
	m, roots := r.mem(), r.rootPlaces()
	behind, then, ok := impl.GcMinor(r.cs, m, roots)
	want, room := r.minor()
	if ok != room || !ok && (!isNoMem(behind) || len(then) != 0) {
		t.Fatalf("GcMinor of %v, %v is %v, %v, %t, not %t", m, roots, behind, then, ok, room)
	}
	if !ok {
		if m.Top <= len(m.Words)-m.Old {
			t.Fatalf("there is room for all that is young in %v, but GcMinor is false", m)
		}
		return false
	}
	if wantMem := want.mem(); !equalMems(behind, wantMem) || !slices.Equal(then, want.rootPlaces()) {
		t.Fatalf("GcMinor of %v, %v is %v, %v, not %v, %v", m, roots, behind, then, wantMem, want.rootPlaces())
	}
	mustSeeTheSame(t, "GcMinor", r.cs, m, roots, behind, then)
	mustBeMoved(t, m, behind)
	mustLeadAlike(t, roots, then)
	mustStayOld(t, r.cs, m, roots, behind, then)
	return true
}

// mustStayOld is P69.
func mustStayOld(t *testing.T, cs []impl.Class, m impl.Mem, roots []int, behind impl.Mem, then []int) {
	t.Helper()
	walk, now := impl.MemWalk(cs, m), impl.MemWalk(cs, behind)
	var old, young []int
	for _, at := range walk {
		if at > m.Young {
			old = append(old, at)
		} else {
			young = append(young, at)
		}
	}
	if len(now) < len(old) || len(now) > len(walk) || !slices.Equal(now[:len(old)], old) {
		t.Fatalf("things of %v were at %v, and are at %v", m, walk, now)
	}
	for _, at := range old {
		if behind.Words[at-1] != m.Words[at-1] || impl.MemSize(cs, behind, at) != impl.MemSize(cs, m, at) {
			t.Fatalf("at %d of %v is another thing in %v", at, m, behind)
		}
	}
	for i, at := range roots {
		if (at == 0 || at > m.Young) != (then[i] == at) || at > 0 && at <= m.Young && then[i] <= m.Old {
			t.Fatalf("roots were %v, and are %v; in use of the old part was up to %d", roots, then, m.Old)
		}
	}
	// Each of those behind is one of the young ones: they are of their classes, and of as many words.
	for _, at := range now[len(old):] {
		same := func(was int) bool {
			return m.Words[was-1] == behind.Words[at-1] && impl.MemSize(cs, m, was) == impl.MemSize(cs, behind, at)
		}
		i := slices.IndexFunc(young, same)
		if i < 0 {
			t.Fatalf("no young thing of %v is that at %d of %v", m, at, behind)
		}
		young = slices.Delete(young, i, i+1)
	}
}

// mustHoldMajor is GcMajor by hand, and P70, P71, P72 and P77; it says whether there was room.
func mustHoldMajor(t *testing.T, r rooted) bool {
	t.Helper()
	m, roots := r.mem(), r.rootPlaces()
	behind, then, ok := impl.GcMajor(r.cs, m, roots)
	want, room := r.major()
	if ok != room || !ok && (!isNoMem(behind) || len(then) != 0) {
		t.Fatalf("GcMajor of %v, %v is %v, %v, %t, not %t", m, roots, behind, then, ok, room)
	}
	live := sizesIn(r.cs, m, impl.GcLive(r.cs, m, roots))
	if ok != (live <= len(m.Words)-m.Young) {
		t.Fatalf("of %v %d words are live, but GcMajor is %t", m, live, ok)
	}
	if !ok {
		return false
	}
	if wantMem := want.mem(); !equalMems(behind, wantMem) || !slices.Equal(then, want.rootPlaces()) {
		t.Fatalf("GcMajor of %v, %v is %v, %v, not %v, %v", m, roots, behind, then, wantMem, want.rootPlaces())
	}
	mustSeeTheSame(t, "GcMajor", r.cs, m, roots, behind, then)
	mustBeMoved(t, m, behind)
	mustLeadAlike(t, roots, then)
	if behind.Old != m.Young+live || !slices.Equal(impl.GcLive(r.cs, behind, then), impl.MemWalk(r.cs, behind)) {
		t.Fatalf("of %v is left %v, of which not all is live from %v", m, behind, then)
	}
	mustLieClose(t, r.cs, behind)
	again, thenAgain, ok := impl.GcMajor(r.cs, behind, then)
	if !ok || !equalMems(again, behind) || !slices.Equal(thenAgain, then) {
		t.Fatalf("GcMajor of %v, %v, which it gave back, is %v, %v", behind, then, again, thenAgain)
	}
	return true
}

// mustHoldBoth is P73.
func mustHoldBoth(t *testing.T, r rooted) {
	t.Helper()
	m, roots := r.mem(), r.rootPlaces()
	alone, thenAlone, ok := impl.GcMajor(r.cs, m, roots)
	minor, then, also := impl.GcMinor(r.cs, m, roots)
	if !also {
		return
	}
	both, thenBoth, still := impl.GcMajor(r.cs, minor, then)
	if !still || !ok {
		t.Fatalf("what was moved by GcMinor of %v has no room by GcMajor: %t, %t", m, still, ok)
	}
	if both.Old != alone.Old || both.Top != alone.Top {
		t.Fatalf("GcMajor of %v is %v, but behind GcMinor %v", m, alone, both)
	}
	mustSeeTheSame(t, "GcMajor behind GcMinor", r.cs, m, roots, both, thenBoth)
	mustSeeTheSame(t, "GcMajor with and without GcMinor", r.cs, alone, thenAlone, both, thenBoth)
}

// movesCounted is how often there was room, and was not.
type movesCounted struct {
	minor, notMinor, major, notMajor int
}

func (c *movesCounted) hold(t *testing.T, r rooted) {
	t.Helper()
	mustHoldLive(t, r)
	if mustHoldMinor(t, r) {
		c.minor++
	} else {
		c.notMinor++
	}
	if mustHoldMajor(t, r) {
		c.major++
	} else {
		c.notMajor++
	}
	mustHoldBoth(t, r)
}

func (c *movesCounted) mustBeMany(t *testing.T, least int) {
	t.Helper()
	if min(c.minor, c.notMinor, c.major, c.notMajor) < least {
		t.Error("too few", *c)
	}
}

// P67 to P73, P77
func TestMovesInSomeMemories(t *testing.T) {
	var count movesCounted
	for _, r := range someRooted(21, 2500) {
		count.hold(t, r)
	}
	count.mustBeMany(t, 100)
}

// P67 to P73, P77: all small memories.
func TestMovesInSmallMemories(t *testing.T) {
	var count movesCounted
	eachSmallRooted(12, 14, 2, func(r rooted) { count.hold(t, r) })
	if count.minor < 20000 || count.notMinor != 0 || count.notMajor != 0 {
		t.Error(count)
	}
}

// nearlyFull has so many words more in use of the old part, by things to which nothing leads, ahead of all others there.
func (r rooted) nearlyFull(words int) rooted {
	h := r.memHand.copied()
	out := heap{objs: h.objs, roots: refs(r.roots...)}
	for range words {
		out = withThing(out, h.inYoung, thing(impl.ClassRoot))
	}
	h.objs, h.cards = out.objs, make([]bool, len(h.cards))
	next := rooted{memHand: h.withNeeded()}
	for _, v := range out.roots {
		next.roots = append(next.roots, v.N)
	}
	return next
}

// P67 to P73, P77: the same with little room in the old part, so that there is just enough, or one word too few, at each thing that is moved.
func TestMovesInSmallMemoriesThatAreNearlyFull(t *testing.T) {
	var count movesCounted
	eachSmallRooted(12, 14, 1, func(r rooted) {
		for words := range r.free(true) + 1 {
			if words >= r.free(true)-10 && len(r.roots) > 0 {
				count.hold(t, r.nearlyFull(words))
			}
		}
	})
	if count.minor < 5000 || count.notMinor < 5000 || count.notMajor != 0 {
		t.Error(count)
	}
}
