package shardflow_test

import (
	"math"
	"slices"
	"testing"

	"shardflow/api"
	"shardflow/shardflow"
)

func groupOf(t *testing.T, workers int, lease int) *shardflow.Group {
	t.Helper()
	c := plain()
	c.Workers = workers
	c.Lease = lease
	return groupWith(t, c)
}

func checkLease(t *testing.T, g *shardflow.Group, shard int, owner int, counter int, epoch int) {
	t.Helper()
	want := api.Lease{Owner: owner, Counter: counter, Epoch: epoch}
	if got, e := g.Lease(shard); got != want || e != api.OK {
		t.Fatalf("Lease(%d) = %+v, %d, want %+v, OK", shard, got, e, want)
	}
}

// hold is one without records, of a shard of which nothing is folded.
func hold(shard int, epoch int) api.Hold {
	return api.Hold{Shard: shard, Epoch: epoch, At: 0, Buffer: 0}
}

func checkHolds(t *testing.T, g *shardflow.Group, w int, want ...api.Hold) {
	t.Helper()
	if got, e := g.Holds(w); !slices.Equal(got, want) || e != api.OK {
		t.Fatalf("Holds(%d) = %+v, %d, want %+v, OK", w, got, e, want)
	}
}

func checkRenew(t *testing.T, g *shardflow.Group, w int, want int) {
	t.Helper()
	if n, e := g.Renew(w); n != want || e != api.OK {
		t.Fatalf("Renew(%d) = %d, %d, want %d, OK", w, n, e, want)
	}
}

func checkTake(t *testing.T, g *shardflow.Group, w int, want int) {
	t.Helper()
	if n, e := g.Take(w); n != want || e != api.OK {
		t.Fatalf("Take(%d) = %d, %d, want %d, OK", w, n, e, want)
	}
}

func checkSteal(t *testing.T, g *shardflow.Group, w int, shard int) {
	t.Helper()
	if e := g.Steal(w, shard); e != api.OK {
		t.Fatalf("Steal(%d, %d) = %d, want OK", w, shard, e)
	}
}

func checkCrash(t *testing.T, g *shardflow.Group, w int) {
	t.Helper()
	if e := g.Crash(w); e != api.OK {
		t.Fatalf("Crash(%d) = %d, want OK", w, e)
	}
}

// seen is all that the calls tell, but for the sums.
type seen struct {
	shards []api.Shard
	leases []api.Lease
	marks  []api.Mark
	holds  [][]api.Hold
}

func look(g *shardflow.Group) seen {
	s := seen{shards: g.Shards()}
	for n := range s.shards {
		lease, _ := g.Lease(n)
		s.leases = append(s.leases, lease)
		mark, _ := g.Mark(n)
		s.marks = append(s.marks, mark)
	}
	for w := range 4 {
		holds, _ := g.Holds(w)
		s.holds = append(s.holds, holds)
	}
	return s
}

func checkSeen(t *testing.T, g *shardflow.Group, want seen) {
	t.Helper()
	got := look(g)
	same := sameShards(got.shards, want.shards) && slices.Equal(got.leases, want.leases) && slices.Equal(got.marks, want.marks)
	for w := range want.holds {
		same = same && slices.Equal(got.holds[w], want.holds[w])
	}
	if !same {
		t.Fatalf("all that is told is %+v, want %+v", got, want)
	}
}

func refuseTake(t *testing.T, g *shardflow.Group, w int, want api.Errno) {
	t.Helper()
	before := look(g)
	if n, e := g.Take(w); n != 0 || e != want {
		t.Fatalf("Take(%d) = %d, %d, want 0, %d", w, n, e, want)
	}
	checkSeen(t, g, before)
}

func refuseSteal(t *testing.T, g *shardflow.Group, w int, shard int, want api.Errno) {
	t.Helper()
	before := look(g)
	if e := g.Steal(w, shard); e != want {
		t.Fatalf("Steal(%d, %d) = %d, want %d", w, shard, e, want)
	}
	checkSeen(t, g, before)
}

func ticks(g *shardflow.Group, n int) {
	for range n {
		g.Tick()
	}
}

func noWorkers(workers int) []int {
	return []int{math.MinInt, -1, workers, workers + 1, math.MaxInt}
}

func TestNoSuchWorker(t *testing.T) { // P1, P9 to P13
	for workers := 1; workers <= 4; workers++ {
		g := groupOf(t, workers, 3)
		checkTake(t, g, workers-1, 0)
		before := look(g)
		for _, w := range noWorkers(workers) {
			if n, e := g.Renew(w); n != 0 || e != api.ErrWorker {
				t.Errorf("Renew(%d) = %d, %d", w, n, e)
			}
			if e := g.Crash(w); e != api.ErrWorker {
				t.Errorf("Crash(%d) = %d", w, e)
			}
			if l, e := g.Holds(w); l != nil || e != api.ErrWorker {
				t.Errorf("Holds(%d) = %v, %d", w, l, e)
			}
			refuseTake(t, g, w, api.ErrWorker)
			for _, shard := range []int{math.MinInt, -1, 0, 1, math.MaxInt} { // ErrShard comes behind
				refuseSteal(t, g, w, shard, api.ErrWorker)
			}
			checkSeen(t, g, before)
		}
		for w := range workers {
			if _, e := g.Holds(w); e != api.OK {
				t.Errorf("Holds(%d) of %d workers = %d", w, workers, e)
			}
		}
	}
}

func TestNoSuchShard(t *testing.T) { // P1, P11, P13
	g := newGroup(t)
	checkSplit(t, g, 0, 100, 1, api.OK)
	checkSteal(t, g, 0, 2)
	for _, shard := range []int{math.MinInt, -1, 3, 15, 16, math.MaxInt} {
		if l, e := g.Lease(shard); l != (api.Lease{}) || e != api.ErrShard {
			t.Errorf("Lease(%d) = %+v, %d", shard, l, e)
		}
		refuseSteal(t, g, 0, shard, api.ErrShard)
	}
	checkLease(t, g, 0, -1, 0, 0)
	checkLease(t, g, 1, -1, 0, 0)
	checkLease(t, g, 2, 0, 1, 1)
}

func TestExampleThree(t *testing.T) { // P10, P13
	g := newGroup(t)
	checkPut(t, g, "a", 0, 0)
	checkSplit(t, g, 0, 64, 1, api.OK)
	checkPut(t, g, "a", 2, 0)
	checkPut(t, g, "ab", 1, 0)
	checkTake(t, g, 0, 0)
	checkLease(t, g, 0, 0, 1, 1)
	checkHolds(t, g, 0, hold(0, 1))
	refuseTake(t, g, 0, api.ErrNone)
	refuseTake(t, g, 1, api.ErrNone)
	refuseSteal(t, g, 1, 1, api.ErrWait)
	refuseSteal(t, g, 1, 2, api.ErrWait)
	checkHolds(t, g, 1)
}

func TestExampleSixTheLeases(t *testing.T) { // P9, P11
	g := newGroup(t)
	checkTake(t, g, 0, 0)
	checkSteal(t, g, 1, 0)
	checkLease(t, g, 0, 1, 2, 2)
	checkHolds(t, g, 0, hold(0, 1))
	checkHolds(t, g, 1, hold(0, 2))
	checkRenew(t, g, 0, 0)
	checkHolds(t, g, 0)
	checkLease(t, g, 0, 1, 2, 2) // a hold that is gone renews nothing
	checkRenew(t, g, 1, 1)
	checkLease(t, g, 0, 1, 3, 2)
}

func TestExampleEight(t *testing.T) { // P10, P12
	g := newGroup(t)
	checkTake(t, g, 0, 0)
	checkCrash(t, g, 0)
	checkHolds(t, g, 0)
	refuseTake(t, g, 1, api.ErrNone)
	ticks(g, 3)
	checkTake(t, g, 1, 0)
	checkLease(t, g, 0, 1, 2, 2)
	checkHolds(t, g, 1, hold(0, 2))
}

func TestExampleEightRenewed(t *testing.T) { // P9, P10: another counter is noted anew
	g := newGroup(t)
	checkTake(t, g, 0, 0)
	refuseTake(t, g, 1, api.ErrNone)
	ticks(g, 2)
	checkRenew(t, g, 0, 1)
	g.Tick()
	refuseTake(t, g, 1, api.ErrNone) // noted anew at the time 3
	ticks(g, 2)
	refuseTake(t, g, 1, api.ErrNone)
	g.Tick()
	checkTake(t, g, 1, 0)
	checkLease(t, g, 0, 1, 3, 2)
}

func TestALeaseRunsOutAtJustLease(t *testing.T) { // P10
	for lease := 1; lease <= 10; lease++ {
		g := groupOf(t, 2, lease)
		checkTake(t, g, 0, 0)
		ticks(g, 20)                     // how old the lease is does not matter
		refuseTake(t, g, 1, api.ErrNone) // noted now
		for range lease {
			refuseTake(t, g, 1, api.ErrNone) // noting once more does not begin anew
			g.Tick()
		}
		checkTake(t, g, 1, 0)
		checkLease(t, g, 0, 1, 2, 2)
		checkHolds(t, g, 0, hold(0, 1)) // worker 0 does not know it yet
	}
}

func TestNotesGoByTheCounterAlone(t *testing.T) { // P10: the lease went to and fro between two calls
	g := groupOf(t, 3, 2)
	checkTake(t, g, 0, 0)
	refuseTake(t, g, 2, api.ErrNone) // notes the counter 1
	checkSteal(t, g, 1, 0)           // 2
	checkRenew(t, g, 0, 0)
	checkSteal(t, g, 0, 0) // 3: worker 0's again
	ticks(g, 2)
	refuseTake(t, g, 2, api.ErrNone)
	g.Tick()
	refuseTake(t, g, 2, api.ErrNone)
	g.Tick()
	checkTake(t, g, 2, 0)
	checkLease(t, g, 0, 2, 4, 4)
}

func TestTheOwnerWaitsToo(t *testing.T) { // P10, P12: a worker that forgot
	g := groupOf(t, 1, 2)
	checkTake(t, g, 0, 0)
	refuseTake(t, g, 0, api.ErrNone)
	ticks(g, 5)
	refuseTake(t, g, 0, api.ErrNone) // it has a hold
	checkCrash(t, g, 0)
	refuseTake(t, g, 0, api.ErrNone) // it has no notes any more
	g.Tick()
	refuseTake(t, g, 0, api.ErrNone)
	g.Tick()
	checkTake(t, g, 0, 0)
	checkLease(t, g, 0, 0, 2, 2)
	checkHolds(t, g, 0, hold(0, 2))
}

func TestACrashAfterANote(t *testing.T) { // P12
	g := groupOf(t, 2, 3)
	checkTake(t, g, 0, 0)
	refuseTake(t, g, 1, api.ErrNone)
	ticks(g, 3)
	before := look(g)
	checkCrash(t, g, 1) // the note would let it take the shard
	checkSeen(t, g, before)
	refuseTake(t, g, 1, api.ErrNone)
	ticks(g, 3)
	checkTake(t, g, 1, 0)
}

func TestACrashIsOneWorkersAlone(t *testing.T) { // P12
	g := groupOf(t, 3, 3)
	checkSplit(t, g, 0, 100, 1, api.OK)
	checkTake(t, g, 0, 1)
	checkTake(t, g, 1, 2)
	refuseTake(t, g, 2, api.ErrNone)
	checkCrash(t, g, 0)
	checkCrash(t, g, 0)
	checkHolds(t, g, 0)
	checkHolds(t, g, 1, hold(2, 1))
	checkLease(t, g, 1, 0, 1, 1)
	checkRenew(t, g, 0, 0)
	checkLease(t, g, 1, 0, 1, 1)
	ticks(g, 3)
	checkTake(t, g, 2, 1) // worker 2 still has its notes
	checkTake(t, g, 2, 2)
}

func TestNotesAreMadeWithErrNone(t *testing.T) { // P10
	g := groupOf(t, 2, 3)
	checkSplit(t, g, 0, 100, 1, api.OK)
	checkTake(t, g, 0, 1)
	checkTake(t, g, 0, 2)
	refuseTake(t, g, 1, api.ErrNone)
	ticks(g, 3)
	checkTake(t, g, 1, 1)
	checkTake(t, g, 1, 2)
}

func TestNotesAreMadeOfAllShards(t *testing.T) { // P10: also behind the one that is taken
	g := groupOf(t, 2, 3)
	checkSplit(t, g, 0, 100, 1, api.OK)
	checkSteal(t, g, 0, 2)
	checkTake(t, g, 1, 1)
	ticks(g, 3)
	checkTake(t, g, 1, 2)
}

func TestNoNoteIsMadeByTheOthers(t *testing.T) { // P9, P11, P13
	g := groupOf(t, 2, 3)
	checkSplit(t, g, 0, 100, 1, api.OK)
	checkSteal(t, g, 0, 1)
	checkSteal(t, g, 1, 2)
	refuseSteal(t, g, 1, 2, api.ErrHeld)
	checkRenew(t, g, 1, 1)
	look(g)
	ticks(g, 3)
	refuseTake(t, g, 1, api.ErrNone) // noted just now
	ticks(g, 3)
	checkTake(t, g, 1, 1)
}

func TestAFreeLeaseNeedsNoNote(t *testing.T) { // P9, P10
	g := groupOf(t, 2, 10)
	checkSplit(t, g, 0, 100, 1, api.OK)
	checkTake(t, g, 1, 1)
	checkTake(t, g, 0, 2)
	refuseTake(t, g, 0, api.ErrNone)
}

func TestTakeGoesByTheLeastNumber(t *testing.T) { // P10
	g := groupOf(t, 2, 2)
	for at := 1; at <= 7; at++ { // open: 1, 3, .. 13 and 14; the others are finished
		checkSplit(t, g, 2*at-2, at, 2*at-1, api.OK)
	}
	checkSteal(t, g, 1, 5)
	for _, n := range []int{1, 3, 7, 9, 11, 13, 14} {
		checkTake(t, g, 0, n)
	}
	refuseTake(t, g, 0, api.ErrNone)
	ticks(g, 2)
	checkTake(t, g, 0, 5) // run out
	want := []api.Hold{hold(1, 1), hold(3, 1), hold(5, 2), hold(7, 1), hold(9, 1), hold(11, 1), hold(13, 1), hold(14, 1)}
	checkHolds(t, g, 0, want...)
	checkRenew(t, g, 0, 8)
	checkHolds(t, g, 0, want...)
	checkHolds(t, g, 1, hold(5, 1))
	for _, h := range want {
		checkLease(t, g, h.Shard, 0, h.Epoch+1, h.Epoch)
	}
	checkLease(t, g, 0, -1, 0, 0)
	checkLease(t, g, 12, -1, 0, 0)
}

func TestAShardThatRanOutGoesAheadOfAFreeOne(t *testing.T) { // P10
	g := groupOf(t, 2, 2)
	checkSplit(t, g, 0, 100, 1, api.OK)
	checkTake(t, g, 0, 1)
	checkTake(t, g, 0, 2)
	refuseTake(t, g, 1, api.ErrNone)
	ticks(g, 2)
	checkSplit(t, g, 2, 200, 3, api.OK)
	checkTake(t, g, 1, 1)
	checkTake(t, g, 1, 3)
	checkTake(t, g, 1, 4)
}

func TestWhatIsNotReady(t *testing.T) { // P10, P11
	g := groupOf(t, 2, 1)
	checkPut(t, g, "a", 0, 0)
	checkSplit(t, g, 0, 64, 1, api.OK)
	checkSplit(t, g, 1, 32, 3, api.OK) // 1 is closed without records, and not finished
	checkMerge(t, g, 4, 2, 5, api.OK)
	for shard := 1; shard <= 5; shard++ {
		refuseSteal(t, g, 1, shard, api.ErrWait)
	}
	checkTake(t, g, 0, 0)
	refuseTake(t, g, 0, api.ErrNone)
	refuseTake(t, g, 1, api.ErrNone)
	ticks(g, 1)
	checkTake(t, g, 1, 0) // of all of them shard 0 alone
	refuseTake(t, g, 1, api.ErrNone)
	refuseSteal(t, g, 1, 0, api.ErrHeld)
	checkRenew(t, g, 1, 1)
}

func TestWhatIsFinished(t *testing.T) { // P9, P10, P11
	g := groupOf(t, 3, 1)
	checkTake(t, g, 0, 0)
	checkSteal(t, g, 1, 0)
	refuseTake(t, g, 2, api.ErrNone)
	checkSplit(t, g, 0, 100, 1, api.OK)
	ticks(g, 5)
	refuseSteal(t, g, 2, 0, api.ErrWait)
	refuseSteal(t, g, 1, 0, api.ErrHeld) // ahead of ErrWait
	checkTake(t, g, 2, 1)                // not 0, though its lease ran out
	checkRenew(t, g, 0, 0)               // the lease is worker 1's: it stays so
	checkLease(t, g, 0, 1, 2, 2)
	checkHolds(t, g, 1, hold(0, 2))
	checkRenew(t, g, 1, 0)
	checkLease(t, g, 0, -1, 3, 2)
	checkHolds(t, g, 1)
	checkRenew(t, g, 1, 0)
	checkLease(t, g, 0, -1, 3, 2)
	refuseSteal(t, g, 1, 0, api.ErrWait)
	checkTake(t, g, 1, 2)
}

func TestRenewOfSeveral(t *testing.T) { // P9
	g := groupOf(t, 2, 3)
	checkSplit(t, g, 0, 64, 1, api.OK)
	checkSplit(t, g, 2, 128, 3, api.OK)
	checkTake(t, g, 0, 1)
	checkTake(t, g, 0, 3)
	checkTake(t, g, 0, 4)
	checkSteal(t, g, 1, 1)              // goes to another
	checkSplit(t, g, 3, 100, 5, api.OK) // is finished
	checkTake(t, g, 0, 5)               // goes on
	checkRenew(t, g, 0, 2)
	checkHolds(t, g, 0, hold(4, 1), hold(5, 1))
	checkHolds(t, g, 1, hold(1, 2))
	checkLease(t, g, 1, 1, 2, 2)
	checkLease(t, g, 3, -1, 2, 1)
	checkLease(t, g, 4, 0, 2, 1)
	checkLease(t, g, 5, 0, 2, 1)
	checkLease(t, g, 6, -1, 0, 0)
}

func TestAnewWithAnotherEpoch(t *testing.T) { // P9 to P12
	g := groupOf(t, 2, 3)
	checkSteal(t, g, 0, 0)
	checkCrash(t, g, 0)
	checkSteal(t, g, 0, 0) // the same worker anew
	checkHolds(t, g, 0, hold(0, 2))
	checkLease(t, g, 0, 0, 2, 2)
	checkRenew(t, g, 0, 1)
	checkSteal(t, g, 1, 0)
	checkCrash(t, g, 0)
	checkSteal(t, g, 0, 0)
	checkHolds(t, g, 0, hold(0, 4))
	checkRenew(t, g, 1, 0)
	checkRenew(t, g, 0, 1)
	checkLease(t, g, 0, 0, 6, 4)
}

func TestStealRefusesInOrder(t *testing.T) { // P1, P11
	g := groupOf(t, 2, 3)
	checkTake(t, g, 0, 0)
	refuseSteal(t, g, 2, 1, api.ErrWorker)
	refuseSteal(t, g, 2, 0, api.ErrWorker)
	refuseSteal(t, g, 0, 1, api.ErrShard)
	refuseSteal(t, g, 0, 0, api.ErrHeld)
	checkSteal(t, g, 1, 0)
	refuseSteal(t, g, 0, 0, api.ErrHeld) // it has a hold, though the lease is another's
}

func TestHoldsAreTheCallers(t *testing.T) { // P2
	g := groupOf(t, 2, 3)
	checkSplit(t, g, 0, 64, 1, api.OK)
	checkSplit(t, g, 2, 128, 3, api.OK)
	checkTake(t, g, 0, 1)
	checkTake(t, g, 0, 3)
	checkTake(t, g, 0, 4)
	want := []api.Hold{hold(1, 1), hold(3, 1), hold(4, 1)}
	kept, _ := g.Holds(0)
	for range 3 {
		list, _ := g.Holds(0)
		list = list[:cap(list)]
		for i := range list {
			list[i] = api.Hold{Shard: 2, Epoch: -9, At: -9, Buffer: -9}
		}
		checkHolds(t, g, 0, want...)
		checkHolds(t, g, 1)
	}
	empty, _ := g.Holds(1)
	_ = append(empty, api.Hold{Shard: -9})
	checkHolds(t, g, 1)
	checkRenew(t, g, 0, 3)
	checkCrash(t, g, 0)
	if !slices.Equal(kept, want) {
		t.Errorf("a list that came out before is now %+v", kept)
	}
}

func TestWorkersOfTwoGroupsAreApart(t *testing.T) { // P2
	one, two := newGroup(t), newGroup(t)
	checkTake(t, one, 0, 0)
	checkRenew(t, one, 0, 1)
	checkLease(t, two, 0, -1, 0, 0)
	checkHolds(t, two, 0)
	refuseTake(t, one, 1, api.ErrNone)
	ticks(two, 9)
	refuseTake(t, one, 1, api.ErrNone)
	checkTake(t, two, 1, 0)
	checkCrash(t, two, 0)
	checkHolds(t, one, 0, hold(0, 1))
}

func TestTheLogLeavesTheLeases(t *testing.T) { // P4 to P8: holds and leases are the workers' alone
	g := newGroup(t)
	checkTake(t, g, 0, 0)
	checkPut(t, g, "a", 0, 0)
	checkSplit(t, g, 0, 64, 1, api.OK)
	checkMerge(t, g, 1, 2, 3, api.OK)
	g.Tick()
	g.Shards()
	checkLease(t, g, 0, 0, 1, 1)
	checkHolds(t, g, 0, hold(0, 1))
	for n := 1; n <= 3; n++ {
		checkLease(t, g, n, -1, 0, 0)
	}
}
