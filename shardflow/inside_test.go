package shardflow

import (
	"fmt"
	"math"
	"testing"

	"shardflow/api"
	"shardflow/memory"
)

// No call tells the time, the configuration or the notes, so these look inside.

func inside(t *testing.T, workers int) *Group {
	t.Helper()
	g, e := New(api.Config{Workers: workers, Lease: 3, Batch: 2, Width: 10, Slide: 5})
	if e != api.OK {
		t.Fatalf("New = %d", e)
	}
	return g
}

func checkOneHold(t *testing.T, g *Group, w int, want api.Hold) {
	t.Helper()
	if got, e := g.Holds(w); len(got) != 1 || got[0] != want || e != api.OK {
		t.Fatalf("Holds(%d) = %+v, %d, want %+v", w, got, e, want)
	}
}

func checkLeaseOf(t *testing.T, g *Group, shard int, want api.Lease) {
	t.Helper()
	if got, e := g.Lease(shard); got != want || e != api.OK {
		t.Fatalf("Lease(%d) = %+v, %d, want %+v", shard, got, e, want)
	}
}

func TestTick(t *testing.T) { // P3, P8
	c := api.Config{Workers: 2, Lease: 3, Batch: 2, Width: 10, Slide: 5, Late: 7}
	one, e := New(c)
	if e != api.OK || one.now != 0 || one.config != c {
		t.Fatalf("New = %+v, %d", one, e)
	}
	other, e := New(c)
	if e != api.OK {
		t.Fatalf("New = %d", e)
	}
	for want := 1; want <= 1000; want++ {
		one.Tick()
		if one.now != want {
			t.Fatalf("after %d ticks the time is %d", want, one.now)
		}
	}
	if other.now != 0 {
		t.Errorf("the ticks of one group let the time %d go by in another", other.now)
	}
}

func TestTheOtherCallsDoNotMoveTheTime(t *testing.T) { // P8
	g, e := New(api.Config{Workers: 1, Lease: 1, Batch: 1, Width: 1, Slide: 1})
	if e != api.OK {
		t.Fatalf("New = %d", e)
	}
	g.Tick()
	g.Put("a", 1, 500)
	g.Put("", 1, 500)
	g.Split(0, 64)
	g.Split(0, 64)
	g.Merge(1, 2)
	g.Merge(1, 2)
	g.Shards()
	g.Take(0)
	g.Fetch(0, 0)
	g.Commit(0, 0, false)
	g.Renew(0)
	g.Read("a", 500)
	if g.now != 1 {
		t.Errorf("the time is %d, want 1", g.now)
	}
}

func TestAHoldOfAnotherEpochIsGone(t *testing.T) { // P9: the owner is the same worker
	for _, epoch := range []int{0, 1, 3, math.MaxInt} {
		g := inside(t, 2)
		g.Steal(0, 0)
		g.Crash(0)
		g.Steal(0, 0)
		g.workers[0].Keep(api.Hold{Shard: 0, Epoch: epoch})
		if n, e := g.Renew(0); n != 0 || e != api.OK {
			t.Fatalf("Renew(0) with a hold of the epoch %d = %d, %d", epoch, n, e)
		}
		if l, e := g.Holds(0); len(l) != 0 || e != api.OK {
			t.Fatalf("Holds(0) = %+v, %d", l, e)
		}
		checkLeaseOf(t, g, 0, api.Lease{Owner: 0, Counter: 2, Epoch: 2})
	}
}

func TestAHoldOfAnotherOwnerIsGone(t *testing.T) { // P9: the epoch is the same
	g := inside(t, 2)
	g.Steal(1, 0)
	g.workers[0].Keep(api.Hold{Shard: 0, Epoch: 1})
	if n, e := g.Renew(0); n != 0 || e != api.OK {
		t.Fatalf("Renew(0) = %d, %d", n, e)
	}
	checkLeaseOf(t, g, 0, api.Lease{Owner: 1, Counter: 1, Epoch: 1})
	checkOneHold(t, g, 1, api.Hold{Shard: 0, Epoch: 1})
}

// whole is all that a group keeps, notes too.
func whole(g *Group) string { return fmt.Sprintf("%+v", *g) }

func TestErrorsChangeNothing(t *testing.T) { // P1, P9 to P13
	g := inside(t, 2)
	g.Put("a", 1, 1)
	g.Take(0)
	g.Split(0, 64)
	g.Steal(1, 0)
	g.Tick()
	before := whole(g)
	for _, w := range []int{math.MinInt, -1, 2, 3, 4, math.MaxInt} {
		g.Renew(w)
		g.Take(w)
		g.Steal(w, 0)
		g.Steal(w, 9)
		g.Crash(w)
		g.Holds(w)
	}
	for _, shard := range []int{math.MinInt, -1, 0, 1, 2, 3, 16, math.MaxInt} { // held, not ready, or none
		g.Steal(0, shard)
		g.Steal(1, shard)
		g.Lease(shard)
	}
	g.Holds(0)
	if after := whole(g); after != before {
		t.Errorf("the group was\n%s\nand is\n%s", before, after)
	}
}

func TestErrorsOfTheFoldingChangeNothing(t *testing.T) { // P1, P14 to P17
	g := inside(t, 3)
	g.Put("a", 1, 1)
	g.Take(0)
	g.Steal(1, 0)
	g.Fetch(1, 0)
	g.Tick()
	before := whole(g)
	for _, lost := range []bool{false, true} {
		for _, w := range []int{math.MinInt, -1, 3, 4, math.MaxInt} {
			g.Fetch(w, 0)
			g.Commit(w, 0, lost)
		}
		for _, shard := range []int{math.MinInt, -1, 1, 16, math.MaxInt} {
			g.Fetch(1, shard)
			g.Commit(1, shard, lost)
			g.Mark(shard)
		}
		g.Fetch(2, 0) // no hold
		g.Commit(2, 0, lost)
		g.Commit(0, 0, lost) // nothing buffered
	}
	g.Read("A", 0)
	g.Read("a", 3)
	g.Windows("A")
	if after := whole(g); after != before {
		t.Errorf("the group was\n%s\nand is\n%s", before, after)
	}
}

func TestTellingChangesNothing(t *testing.T) { // P16, P17
	g := inside(t, 2)
	g.Put("a", 1, 7)
	g.Put("a", 2, 9)
	g.Take(0)
	g.Fetch(0, 0)
	g.Commit(0, 0, true)
	g.Split(0, 64)
	before := whole(g)
	g.Mark(0)
	g.Mark(2)
	g.Read("a", 0)
	g.Read("a", 5)
	g.Read("b", 5)
	g.Windows("a")
	g.Windows("b")
	if after := whole(g); after != before {
		t.Errorf("the group was\n%s\nand is\n%s", before, after)
	}
}

func TestErrFencedChangesTheHoldAlone(t *testing.T) { // P1, P15
	for _, lost := range []bool{false, true} {
		g := inside(t, 2)
		g.Put("a", 1, 1)
		g.Put("a", 2, 2)
		g.Put("a", 3, 3)
		g.Take(0)
		g.Fetch(0, 0)
		g.Steal(1, 0)
		g.Fetch(1, 0)
		g.Commit(1, 0, false)
		g.Tick()
		g.Take(0)
		before := *g
		before.workers = []memory.Memory{g.workers[0], g.workers[1]}
		if e := g.Commit(0, 0, lost); e != api.ErrFenced {
			t.Fatalf("Commit(0, 0, %t) = %d", lost, e)
		}
		if !lost {
			before.workers[0].Drop(0)
		}
		if want, got := whole(&before), whole(g); got != want {
			t.Errorf("lost %t: the group is\n%s\nwant\n%s", lost, got, want)
		}
	}
}

func TestNotesOfATakeThatFinds(t *testing.T) { // P10, P11: which notes there are
	g := inside(t, 2)
	g.Split(0, 64)
	g.Steal(0, 2)
	g.Renew(0)
	if g.workers[0].Noted(0, 0, 9, 0) || g.workers[0].Noted(2, 1, 9, 0) || g.workers[0].Noted(2, 2, 9, 0) {
		t.Errorf("Steal or Renew made a note: %+v", g.workers[0])
	}
	g.Tick()
	if n, e := g.Take(1); n != 1 || e != api.OK {
		t.Fatalf("Take(1) = %d, %d", n, e)
	}
	want := memory.Memory{}
	want.Note(0, 0, 1) // finished
	want.Note(1, 0, 1) // what it was before it was taken
	want.Note(2, 2, 1)
	want.Keep(api.Hold{Shard: 1, Epoch: 1})
	if g.workers[1] != want {
		t.Errorf("worker 1 has %+v, want %+v", g.workers[1], want)
	}
}

func TestErrNoneChangesNotesAlone(t *testing.T) { // P1, P10
	g := inside(t, 2)
	g.Put("a", 1, 1)
	g.Take(0)
	g.Split(0, 64)
	g.Tick()
	before := *g
	memories := []memory.Memory{g.workers[0], g.workers[1]}
	if n, e := g.Take(1); n != 0 || e != api.ErrNone {
		t.Fatalf("Take(1) = %d, %d", n, e)
	}
	memories[1].Note(0, 1, 1)
	memories[1].Note(1, 0, 1) // not ready: noted all the same
	memories[1].Note(2, 0, 1)
	before.workers = memories
	if want, got := whole(&before), whole(g); got != want {
		t.Errorf("the group is\n%s\nwant\n%s", got, want)
	}
}
