package shardflow

import (
	"fmt"
	"math"
	"testing"

	"shardflow/api"
	"shardflow/memory"
)

// No call tells the time, the configuration or the notes, and none folds yet, so these look inside.

func inside(t *testing.T, workers int) *Group {
	t.Helper()
	g, e := New(api.Config{Workers: workers, Lease: 3, Batch: 2, Width: 10, Slide: 5})
	if e != api.OK {
		t.Fatalf("New = %d", e)
	}
	return g
}

func checkOneHold(t *testing.T, g *Group, w int, want api.Hold) {
	t.Helper()
	if got, e := g.Holds(w); len(got) != 1 || got[0] != want || e != api.OK {
		t.Fatalf("Holds(%d) = %+v, %d, want %+v", w, got, e, want)
	}
}

func checkLeaseOf(t *testing.T, g *Group, shard int, want api.Lease) {
	t.Helper()
	if got, e := g.Lease(shard); got != want || e != api.OK {
		t.Fatalf("Lease(%d) = %+v, %d, want %+v", shard, got, e, want)
	}
}

func TestTick(t *testing.T) { // P3, P8
	c := api.Config{Workers: 2, Lease: 3, Batch: 2, Width: 10, Slide: 5, Late: 7}
	one, e := New(c)
	if e != api.OK || one.now != 0 || one.config != c {
		t.Fatalf("New = %+v, %d", one, e)
	}
	other, e := New(c)
	if e != api.OK {
		t.Fatalf("New = %d", e)
	}
	for want := 1; want <= 1000; want++ {
		one.Tick()
		if one.now != want {
			t.Fatalf("after %d ticks the time is %d", want, one.now)
		}
	}
	if other.now != 0 {
		t.Errorf("the ticks of one group let the time %d go by in another", other.now)
	}
}

func TestTheLogDoesNotMoveTheTime(t *testing.T) { // P8
	g, e := New(api.Config{Workers: 1, Lease: 1, Batch: 1, Width: 1, Slide: 1})
	if e != api.OK {
		t.Fatalf("New = %d", e)
	}
	g.Tick()
	g.Put("a", 1, 500)
	g.Put("", 1, 500)
	g.Split(0, 64)
	g.Split(0, 64)
	g.Merge(1, 2)
	g.Merge(1, 2)
	g.Shards()
	if g.now != 1 {
		t.Errorf("the time is %d, want 1", g.now)
	}
}

func TestAHoldBeginsAtTheMark(t *testing.T) { // P10, P11: TAKES
	g := inside(t, 2)
	for range 5 {
		g.Put("a", 1, 1)
	}
	g.sink.Advance(0, 2)
	if n, e := g.Take(0); n != 0 || e != api.OK {
		t.Fatalf("Take(0) = %d, %d", n, e)
	}
	checkOneHold(t, g, 0, api.Hold{Shard: 0, Epoch: 1, At: 2})
	g.sink.Advance(0, 1)
	if e := g.Steal(1, 0); e != api.OK {
		t.Fatalf("Steal(1, 0) = %d", e)
	}
	checkOneHold(t, g, 1, api.Hold{Shard: 0, Epoch: 2, At: 3})
	checkOneHold(t, g, 0, api.Hold{Shard: 0, Epoch: 1, At: 2})
}

func TestRenewLeavesAtAndBuffer(t *testing.T) { // P9
	g := inside(t, 1)
	g.Take(0)
	hold := api.Hold{Shard: 0, Epoch: 1, At: 2, Buffer: 3}
	g.workers[0].Keep(hold)
	if n, e := g.Renew(0); n != 1 || e != api.OK {
		t.Fatalf("Renew(0) = %d, %d", n, e)
	}
	checkOneHold(t, g, 0, hold)
}

func TestAHoldOfAnotherEpochIsGone(t *testing.T) { // P9: the owner is the same worker
	for _, epoch := range []int{0, 1, 3, math.MaxInt} {
		g := inside(t, 2)
		g.Steal(0, 0)
		g.Crash(0)
		g.Steal(0, 0)
		g.workers[0].Keep(api.Hold{Shard: 0, Epoch: epoch})
		if n, e := g.Renew(0); n != 0 || e != api.OK {
			t.Fatalf("Renew(0) with a hold of the epoch %d = %d, %d", epoch, n, e)
		}
		if l, e := g.Holds(0); len(l) != 0 || e != api.OK {
			t.Fatalf("Holds(0) = %+v, %d", l, e)
		}
		checkLeaseOf(t, g, 0, api.Lease{Owner: 0, Counter: 2, Epoch: 2})
	}
}

func TestAHoldOfAnotherOwnerIsGone(t *testing.T) { // P9: the epoch is the same
	g := inside(t, 2)
	g.Steal(1, 0)
	g.workers[0].Keep(api.Hold{Shard: 0, Epoch: 1})
	if n, e := g.Renew(0); n != 0 || e != api.OK {
		t.Fatalf("Renew(0) = %d, %d", n, e)
	}
	checkLeaseOf(t, g, 0, api.Lease{Owner: 1, Counter: 1, Epoch: 1})
	checkOneHold(t, g, 1, api.Hold{Shard: 0, Epoch: 1})
}

func TestExampleFive(t *testing.T) { // P9, P10: as far as the leases go
	g := inside(t, 2)
	g.Put("a", 7, 12)
	g.Split(0, 64)
	g.Put("a", 5, 3)
	g.Put("ab", 1, 0)
	steps := []struct{ w, want, errno int }{{0, 0, 0}, {0, 0, 10}, {1, 0, 10}}
	for _, s := range steps {
		if n, e := g.Take(s.w); n != s.want || int(e) != s.errno {
			t.Fatalf("Take(%d) = %d, %d, want %d, %d", s.w, n, e, s.want, s.errno)
		}
	}
	g.sink.Advance(0, 1) // shard 0 is finished
	if n, e := g.Take(1); n != 1 || e != api.OK {
		t.Fatalf("Take(1) = %d, %d", n, e)
	}
	if n, e := g.Take(0); n != 2 || e != api.OK {
		t.Fatalf("Take(0) = %d, %d", n, e)
	}
	g.sink.Advance(2, 1)
	if n, e := g.Renew(0); n != 1 || e != api.OK {
		t.Fatalf("Renew(0) = %d, %d", n, e)
	}
	checkLeaseOf(t, g, 0, api.Lease{Owner: -1, Counter: 2, Epoch: 1})
	checkLeaseOf(t, g, 2, api.Lease{Owner: 0, Counter: 2, Epoch: 1})
	checkOneHold(t, g, 0, api.Hold{Shard: 2, Epoch: 1})
	if e := g.Steal(1, 0); e != api.ErrWait {
		t.Fatalf("Steal(1, 0) = %d", e)
	}
}

func TestAShardWithRecordsLeftIsRenewed(t *testing.T) { // P9, P10, P11
	g := inside(t, 2)
	g.Put("a", 1, 1)
	g.Put("a", 1, 1)
	g.Take(0)
	g.Split(0, 64)
	g.sink.Advance(0, 1)
	if n, e := g.Renew(0); n != 1 || e != api.OK {
		t.Fatalf("Renew(0) = %d, %d", n, e)
	}
	if e := g.Steal(1, 1); e != api.ErrWait {
		t.Fatalf("Steal(1, 1) = %d", e)
	}
	if e := g.Steal(1, 0); e != api.OK {
		t.Fatalf("Steal(1, 0) = %d", e)
	}
	g.sink.Advance(0, 1)
	if e := g.Steal(0, 1); e != api.OK {
		t.Fatalf("Steal(0, 1) = %d", e)
	}
	if n, e := g.Take(0); n != 2 || e != api.OK {
		t.Fatalf("Take(0) = %d, %d", n, e)
	}
}

// whole is all that a group keeps, notes too.
func whole(g *Group) string { return fmt.Sprintf("%+v", *g) }

func TestErrorsChangeNothing(t *testing.T) { // P1, P9 to P13
	g := inside(t, 2)
	g.Put("a", 1, 1)
	g.Take(0)
	g.Split(0, 64)
	g.Steal(1, 0)
	g.Tick()
	before := whole(g)
	for _, w := range []int{math.MinInt, -1, 2, 3, 4, math.MaxInt} {
		g.Renew(w)
		g.Take(w)
		g.Steal(w, 0)
		g.Steal(w, 9)
		g.Crash(w)
		g.Holds(w)
	}
	for _, shard := range []int{math.MinInt, -1, 0, 1, 2, 3, 16, math.MaxInt} { // held, not ready, or none
		g.Steal(0, shard)
		g.Steal(1, shard)
		g.Lease(shard)
	}
	g.Holds(0)
	if after := whole(g); after != before {
		t.Errorf("the group was\n%s\nand is\n%s", before, after)
	}
}

func TestNotesOfATakeThatFinds(t *testing.T) { // P10, P11: which notes there are
	g := inside(t, 2)
	g.Split(0, 64)
	g.Steal(0, 2)
	g.Renew(0)
	if g.workers[0].Noted(0, 0, 9, 0) || g.workers[0].Noted(2, 1, 9, 0) || g.workers[0].Noted(2, 2, 9, 0) {
		t.Errorf("Steal or Renew made a note: %+v", g.workers[0])
	}
	g.Tick()
	if n, e := g.Take(1); n != 1 || e != api.OK {
		t.Fatalf("Take(1) = %d, %d", n, e)
	}
	want := memory.Memory{}
	want.Note(0, 0, 1) // finished
	want.Note(1, 0, 1) // what it was before it was taken
	want.Note(2, 2, 1)
	want.Keep(api.Hold{Shard: 1, Epoch: 1})
	if g.workers[1] != want {
		t.Errorf("worker 1 has %+v, want %+v", g.workers[1], want)
	}
}

func TestErrNoneChangesNotesAlone(t *testing.T) { // P1, P10
	g := inside(t, 2)
	g.Put("a", 1, 1)
	g.Take(0)
	g.Split(0, 64)
	g.Tick()
	before := *g
	memories := []memory.Memory{g.workers[0], g.workers[1]}
	if n, e := g.Take(1); n != 0 || e != api.ErrNone {
		t.Fatalf("Take(1) = %d, %d", n, e)
	}
	memories[1].Note(0, 1, 1)
	memories[1].Note(1, 0, 1) // not ready: noted all the same
	memories[1].Note(2, 0, 1)
	before.workers = memories
	if want, got := whole(&before), whole(g); got != want {
		t.Errorf("the group is\n%s\nwant\n%s", got, want)
	}
}
