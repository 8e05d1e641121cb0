package shardflow_test

import (
	"math"
	"slices"
	"testing"

	"shardflow/api"
	"shardflow/shardflow"
)

func put(t *testing.T, g *shardflow.Group, key string, value int, time int) {
	t.Helper()
	if _, _, e := g.Put(key, value, time); e != api.OK {
		t.Fatalf("Put(%q, %d, %d) = %d", key, value, time, e)
	}
}

func checkFetch(t *testing.T, g *shardflow.Group, w int, shard int, want int) {
	t.Helper()
	if n, e := g.Fetch(w, shard); n != want || e != api.OK {
		t.Fatalf("Fetch(%d, %d) = %d, %d, want %d, OK", w, shard, n, e, want)
	}
}

func checkCommit(t *testing.T, g *shardflow.Group, w int, shard int, lost bool, want api.Errno) {
	t.Helper()
	if e := g.Commit(w, shard, lost); e != want {
		t.Fatalf("Commit(%d, %d, %t) = %d, want %d", w, shard, lost, e, want)
	}
}

// fold lets a worker fold the next records of a shard that it holds.
func fold(t *testing.T, g *shardflow.Group, w int, shard int, count int) {
	t.Helper()
	checkFetch(t, g, w, shard, count)
	checkCommit(t, g, w, shard, false, api.OK)
}

func checkMark(t *testing.T, g *shardflow.Group, shard int, done int, epoch int, watermark int) {
	t.Helper()
	want := api.Mark{Done: done, Epoch: epoch, Watermark: watermark}
	if got, e := g.Mark(shard); got != want || e != api.OK {
		t.Fatalf("Mark(%d) = %+v, %d, want %+v, OK", shard, got, e, want)
	}
}

func checkRead(t *testing.T, g *shardflow.Group, key string, start int, want api.Sum) {
	t.Helper()
	if got, e := g.Read(key, start); got != want || e != api.OK {
		t.Fatalf("Read(%q, %d) = %+v, %d, want %+v, OK", key, start, got, e, want)
	}
}

func checkWindows(t *testing.T, g *shardflow.Group, key string, want ...int) {
	t.Helper()
	if got, e := g.Windows(key); !slices.Equal(got, want) || e != api.OK {
		t.Fatalf("Windows(%q) = %v, %d, want %v, OK", key, got, e, want)
	}
}

// alone is what one record makes.
func alone(value int, late int) api.Sum {
	return api.Sum{Count: 1, Sum: value, Min: value, Max: value, First: value, Last: value, Late: late}
}

// total is a sum, with the key and the window to which it belongs.
type total struct {
	key   string
	start int
	sum   api.Sum
}

func someKeys() []string { return []string{"a", "b", "ab", "ba", "z", "zz"} }

// totals are all sums of some keys.
func totals(t *testing.T, g *shardflow.Group) []total {
	t.Helper()
	list := []total{}
	for _, key := range someKeys() {
		starts, e := g.Windows(key)
		if e != api.OK {
			t.Fatalf("Windows(%q) = %d", key, e)
		}
		for _, start := range starts {
			sum, e := g.Read(key, start)
			if e != api.OK {
				t.Fatalf("Read(%q, %d) = %d", key, start, e)
			}
			list = append(list, total{key, start, sum})
		}
	}
	return list
}

func checkTotals(t *testing.T, g *shardflow.Group, want []total) {
	t.Helper()
	if got := totals(t, g); !slices.Equal(got, want) {
		t.Fatalf("the sums are %+v, want %+v", got, want)
	}
}

func refuseFetch(t *testing.T, g *shardflow.Group, w int, shard int, want api.Errno) {
	t.Helper()
	before, sums := look(g), totals(t, g)
	if n, e := g.Fetch(w, shard); n != 0 || e != want {
		t.Fatalf("Fetch(%d, %d) = %d, %d, want 0, %d", w, shard, n, e, want)
	}
	checkSeen(t, g, before)
	checkTotals(t, g, sums)
}

func refuseCommit(t *testing.T, g *shardflow.Group, w int, shard int, lost bool, want api.Errno) {
	t.Helper()
	before, sums := look(g), totals(t, g)
	checkCommit(t, g, w, shard, lost, want)
	checkSeen(t, g, before)
	checkTotals(t, g, sums)
}

// fence looks that a commit is refused, and that just the hold is gone by it.
func fence(t *testing.T, g *shardflow.Group, w int, shard int) {
	t.Helper()
	refuseCommit(t, g, w, shard, true, api.ErrFenced)
	want, sums := look(g), totals(t, g)
	want.holds[w] = slices.DeleteFunc(want.holds[w], func(h api.Hold) bool { return h.Shard == shard })
	checkCommit(t, g, w, shard, false, api.ErrFenced)
	checkSeen(t, g, want)
	checkTotals(t, g, sums)
	refuseCommit(t, g, w, shard, false, api.ErrHold)
}

func TestExamplesThreeToSix(t *testing.T) { // P9 to P17
	g := newGroup(t)
	put(t, g, "a", 7, 12)
	checkSplit(t, g, 0, 64, 1, api.OK)
	put(t, g, "a", 5, 3)
	put(t, g, "ab", 1, 0)
	checkTake(t, g, 0, 0) // example 3
	checkLease(t, g, 0, 0, 1, 1)
	refuseTake(t, g, 0, api.ErrNone)
	refuseTake(t, g, 1, api.ErrNone)
	fold(t, g, 0, 0, 1)
	checkMark(t, g, 0, 1, 1, 12)
	checkRead(t, g, "a", 10, alone(7, 0))
	checkRead(t, g, "a", 5, alone(7, 0))
	checkRead(t, g, "a", 0, api.Sum{})
	if s, e := g.Read("a", 3); s != (api.Sum{}) || e != api.ErrWindow {
		t.Fatalf("Read(a, 3) = %+v, %d", s, e)
	}
	checkWindows(t, g, "a", 5, 10)
	checkTake(t, g, 1, 1) // example 4
	checkTake(t, g, 0, 2)
	fold(t, g, 0, 2, 1)
	checkRead(t, g, "a", 0, alone(5, 1))
	checkMark(t, g, 2, 1, 1, 12)
	checkRenew(t, g, 0, 1) // example 5
	checkLease(t, g, 0, -1, 2, 1)
	checkLease(t, g, 2, 0, 2, 1)
	checkHolds(t, g, 0, api.Hold{Shard: 2, Epoch: 1, At: 1})
	checkSteal(t, g, 1, 2) // example 6
	checkLease(t, g, 2, 1, 3, 2)
	checkHolds(t, g, 1, hold(1, 1), api.Hold{Shard: 2, Epoch: 2, At: 1})
	put(t, g, "z", 1, 20)
	fold(t, g, 0, 2, 1)
	checkMark(t, g, 2, 2, 1, 20)
	checkFetch(t, g, 1, 2, 1)
	fence(t, g, 1, 2)
	checkHolds(t, g, 1, hold(1, 1))
	checkRenew(t, g, 0, 0)
	checkHolds(t, g, 0)
	checkRead(t, g, "z", 20, alone(1, 0))
}

func TestExampleSeven(t *testing.T) { // P15
	g := newGroup(t)
	for i := range 3 {
		put(t, g, "a", i+1, 1)
	}
	checkTake(t, g, 0, 0)
	checkFetch(t, g, 0, 0, 2)
	checkCommit(t, g, 0, 0, true, api.OK)
	checkHolds(t, g, 0, api.Hold{Shard: 0, Epoch: 1, At: 0, Buffer: 2})
	checkMark(t, g, 0, 2, 1, 1)
	checkRead(t, g, "a", 0, api.Sum{Count: 2, Sum: 3, Min: 1, Max: 2, First: 1, Last: 2})
	fence(t, g, 0, 0)
	checkMark(t, g, 0, 2, 1, 1)
	checkLease(t, g, 0, 0, 1, 1) // the lease is not asked, and stays
}

func TestExamplesNineAndTen(t *testing.T) { // P17
	g := groupWith(t, api.Config{Workers: 1, Lease: 1, Batch: 8, Width: 100, Slide: 25})
	put(t, g, "a", 900000, 60)
	put(t, g, "a", 200000, 60)
	put(t, g, "a", -500000, 60)
	put(t, g, "b", 4, 80)
	checkTake(t, g, 0, 0)
	fold(t, g, 0, 0, 4)
	over := api.Sum{Count: 3, Min: -500000, Max: 900000, First: 900000, Last: -500000, Over: true}
	for _, start := range []int{0, 25, 50} {
		checkRead(t, g, "a", start, over)
		checkRead(t, g, "b", start, alone(4, 0))
	}
	checkRead(t, g, "a", 75, api.Sum{})
	checkRead(t, g, "b", 75, alone(4, 0))
	checkWindows(t, g, "a", 0, 25, 50)
	checkWindows(t, g, "b", 0, 25, 50, 75)
}

func TestFetchRefusesInOrder(t *testing.T) { // P1, P14
	for workers := 1; workers <= 4; workers++ {
		g := groupOf(t, workers, 3)
		put(t, g, "a", 1, 1)
		for _, w := range noWorkers(workers) {
			for _, shard := range []int{math.MinInt, -1, 0, 1, math.MaxInt} {
				refuseFetch(t, g, w, shard, api.ErrWorker)
			}
		}
		for _, shard := range []int{math.MinInt, -1, 1, 15, 16, math.MaxInt} {
			refuseFetch(t, g, workers-1, shard, api.ErrShard)
		}
		refuseFetch(t, g, workers-1, 0, api.ErrHold)
		checkTake(t, g, workers-1, 0)
		checkFetch(t, g, workers-1, 0, 1)
		if workers > 1 {
			refuseFetch(t, g, 0, 0, api.ErrHold)
		}
		checkCrash(t, g, workers-1)
		refuseFetch(t, g, workers-1, 0, api.ErrHold)
	}
}

func TestFetchBuffersAtMostBatch(t *testing.T) { // P14
	for batch := 1; batch <= 8; batch++ {
		c := plain()
		c.Batch = batch
		g := groupWith(t, c)
		checkTake(t, g, 0, 0)
		checkFetch(t, g, 0, 0, 0)
		checkHolds(t, g, 0, api.Hold{Shard: 0, Epoch: 1})
		for count := 1; count <= 12; count++ {
			put(t, g, "a", 1, 1)
			want := min(count, batch)
			for range 2 { // the same once more: it reads from At on
				checkFetch(t, g, 0, 0, want)
				checkHolds(t, g, 0, api.Hold{Shard: 0, Epoch: 1, At: 0, Buffer: want})
			}
		}
		checkMark(t, g, 0, 0, 0, -1) // what is read is not folded
		checkWindows(t, g, "a")
	}
}

func TestFetchGoesOnFromAt(t *testing.T) { // P14, P15
	g := newGroup(t)
	checkTake(t, g, 0, 0)
	for i := range 5 {
		put(t, g, "a", i, 1)
	}
	for i, want := range []int{2, 2, 1} {
		checkFetch(t, g, 0, 0, want)
		checkHolds(t, g, 0, api.Hold{Shard: 0, Epoch: 1, At: 2 * i, Buffer: want})
		checkCommit(t, g, 0, 0, false, api.OK)
		checkHolds(t, g, 0, api.Hold{Shard: 0, Epoch: 1, At: 2*i + want, Buffer: 0})
		checkMark(t, g, 0, 2*i+want, 1, 1)
	}
	checkFetch(t, g, 0, 0, 0)
	refuseCommit(t, g, 0, 0, false, api.ErrEmpty)
	put(t, g, "a", 9, 1)
	checkFetch(t, g, 0, 0, 1)
}

func TestFetchIsOneWorkersAndOneShardsAlone(t *testing.T) { // P14
	g := newGroup(t)
	checkSplit(t, g, 0, 64, 1, api.OK)
	put(t, g, "ab", 1, 1) // shard 1
	put(t, g, "a", 1, 1)  // shard 2
	put(t, g, "a", 1, 1)
	checkTake(t, g, 0, 1)
	checkTake(t, g, 0, 2)
	checkSteal(t, g, 1, 2)
	want := look(g)
	checkFetch(t, g, 0, 2, 2)
	want.holds[0][1].Buffer = 2
	checkSeen(t, g, want)
	checkFetch(t, g, 1, 2, 2)
	want.holds[1][0].Buffer = 2
	checkSeen(t, g, want)
	checkFetch(t, g, 0, 1, 1)
	want.holds[0][0].Buffer = 1
	checkSeen(t, g, want)
}

func TestABufferIsWhatWasThere(t *testing.T) { // P14, P15: what comes behind it is not folded with it
	g := newGroup(t)
	put(t, g, "a", 1, 1)
	checkTake(t, g, 0, 0)
	checkFetch(t, g, 0, 0, 1)
	put(t, g, "a", 2, 2)
	checkCommit(t, g, 0, 0, false, api.OK)
	checkMark(t, g, 0, 1, 1, 1)
	checkRead(t, g, "a", 0, alone(1, 0))
}

func TestAClosedShardIsReadToItsEnd(t *testing.T) { // P14, P15
	g := newGroup(t)
	for i := range 3 {
		put(t, g, "a", i+1, i)
	}
	checkTake(t, g, 0, 0)
	checkSplit(t, g, 0, 64, 1, api.OK)
	put(t, g, "a", 9, 9) // shard 2
	fold(t, g, 0, 0, 2)
	fold(t, g, 0, 0, 1)
	checkFetch(t, g, 0, 0, 0)
	checkMark(t, g, 0, 3, 1, 2)
}

func TestCommitRefusesInOrder(t *testing.T) { // P1, P15
	for _, lost := range []bool{false, true} {
		for workers := 1; workers <= 4; workers++ {
			g := groupOf(t, workers, 3)
			put(t, g, "a", 1, 1)
			for _, w := range noWorkers(workers) {
				for _, shard := range []int{math.MinInt, -1, 0, 1, math.MaxInt} {
					refuseCommit(t, g, w, shard, lost, api.ErrWorker)
				}
			}
			w := workers - 1
			for _, shard := range []int{math.MinInt, -1, 1, 15, 16, math.MaxInt} {
				refuseCommit(t, g, w, shard, lost, api.ErrShard)
			}
			refuseCommit(t, g, w, 0, lost, api.ErrHold)
			checkTake(t, g, w, 0)
			refuseCommit(t, g, w, 0, lost, api.ErrEmpty)
			checkFetch(t, g, w, 0, 1)
			checkCommit(t, g, w, 0, lost, api.OK)
		}
	}
}

func TestNothingBufferedGoesAheadOfTheFence(t *testing.T) { // P15: ErrEmpty, though At and Epoch are too low
	g := newGroup(t)
	put(t, g, "a", 1, 1)
	checkTake(t, g, 0, 0)
	checkSteal(t, g, 1, 0)
	fold(t, g, 1, 0, 1)
	for _, lost := range []bool{false, true} {
		refuseCommit(t, g, 0, 0, lost, api.ErrEmpty)
	}
	checkHolds(t, g, 0, hold(0, 1))
	checkFetch(t, g, 0, 0, 1)
	fence(t, g, 0, 0)
}

func TestAnEarlierEpochIsFenced(t *testing.T) { // P15: At is right
	g := newGroup(t)
	put(t, g, "a", 1, 1)
	put(t, g, "a", 2, 1)
	put(t, g, "a", 3, 1)
	checkTake(t, g, 0, 0)  // epoch 1, at 0
	checkSteal(t, g, 1, 0) // epoch 2, at 0
	fold(t, g, 0, 0, 2)    // the sink has not seen epoch 2
	checkMark(t, g, 0, 2, 1, 1)
	checkCrash(t, g, 1)
	checkSteal(t, g, 1, 0) // epoch 3, at 2
	checkFetch(t, g, 1, 0, 1)
	checkFetch(t, g, 0, 0, 1)
	checkCommit(t, g, 1, 0, false, api.OK)
	checkMark(t, g, 0, 3, 3, 1)
	put(t, g, "a", 4, 1)
	fence(t, g, 0, 0)
	fold(t, g, 1, 0, 1)
	checkMark(t, g, 0, 4, 3, 1)
	checkRead(t, g, "a", 0, api.Sum{Count: 4, Sum: 10, Min: 1, Max: 4, First: 1, Last: 4})
}

func TestAnEpochThatIsTheMarksIsNotFenced(t *testing.T) { // P15: below, not at
	g := newGroup(t)
	checkTake(t, g, 0, 0)
	for i := range 4 {
		put(t, g, "a", 1, 1)
		fold(t, g, 0, 0, 1)
		checkMark(t, g, 0, i+1, 1, 1)
	}
}

func TestAnotherPlaceIsFenced(t *testing.T) { // P15: the epoch is the greater one
	g := newGroup(t)
	for i := range 4 {
		put(t, g, "a", i+1, 1)
	}
	checkTake(t, g, 0, 0)
	checkSteal(t, g, 1, 0)
	checkFetch(t, g, 1, 0, 2)
	fold(t, g, 0, 0, 2)
	fence(t, g, 1, 0)
	checkMark(t, g, 0, 2, 1, 1)
	fold(t, g, 0, 0, 2) // the epoch of a commit that was refused is not kept
	checkMark(t, g, 0, 4, 1, 1)
	checkRead(t, g, "a", 0, api.Sum{Count: 4, Sum: 10, Min: 1, Max: 4, First: 1, Last: 4})
}

func TestALostAnswer(t *testing.T) { // P14, P15
	g := newGroup(t)
	for i := range 5 {
		put(t, g, "a", i+1, 1)
	}
	checkTake(t, g, 0, 0)
	checkFetch(t, g, 0, 0, 2)
	checkCommit(t, g, 0, 0, true, api.OK)
	checkFetch(t, g, 0, 0, 2) // from At on, as it knows of nothing
	refuseCommit(t, g, 0, 0, true, api.ErrFenced)
	checkHolds(t, g, 0, api.Hold{Shard: 0, Epoch: 1, At: 0, Buffer: 2})
	checkRenew(t, g, 0, 1) // the lease is still its own
	fence(t, g, 0, 0)
	checkSteal(t, g, 0, 0)
	checkHolds(t, g, 0, api.Hold{Shard: 0, Epoch: 2, At: 2})
	fold(t, g, 0, 0, 2)
	checkMark(t, g, 0, 4, 2, 1)
	checkRead(t, g, "a", 0, api.Sum{Count: 4, Sum: 10, Min: 1, Max: 4, First: 1, Last: 4})
}

func TestALostAnswerOfAnEarlierEpoch(t *testing.T) { // P15
	g := newGroup(t)
	put(t, g, "a", 1, 1)
	checkTake(t, g, 0, 0)
	checkFetch(t, g, 0, 0, 1)
	checkSteal(t, g, 1, 0)
	checkFetch(t, g, 1, 0, 1)
	checkCommit(t, g, 1, 0, true, api.OK)
	checkMark(t, g, 0, 1, 2, 1)
	fence(t, g, 0, 0)
	fence(t, g, 1, 0)
	checkRead(t, g, "a", 0, alone(1, 0))
}

func TestCommitLeavesTheLease(t *testing.T) { // P15: the lease is not asked, and not changed
	g := newGroup(t)
	put(t, g, "a", 1, 5)
	checkTake(t, g, 0, 0)
	checkFetch(t, g, 0, 0, 1)
	want := look(g)
	checkCommit(t, g, 0, 0, false, api.OK)
	want.holds[0][0] = api.Hold{Shard: 0, Epoch: 1, At: 1, Buffer: 0}
	want.marks[0] = api.Mark{Done: 1, Epoch: 1, Watermark: 5}
	checkSeen(t, g, want)
}

func TestCommitWithALeaseThatRanOut(t *testing.T) { // P15
	g := newGroup(t)
	put(t, g, "a", 1, 1)
	put(t, g, "a", 2, 1)
	put(t, g, "a", 3, 1)
	checkTake(t, g, 0, 0)
	checkFetch(t, g, 0, 0, 2)
	refuseTake(t, g, 1, api.ErrNone)
	ticks(g, 3)
	checkTake(t, g, 1, 0) // epoch 2, at 0
	checkCommit(t, g, 0, 0, false, api.OK)
	checkFetch(t, g, 1, 0, 2)
	fence(t, g, 1, 0)
	fold(t, g, 0, 0, 1)
	checkMark(t, g, 0, 3, 1, 1)
}

func TestCommitOfAFinishedShard(t *testing.T) { // P15: whoever is late finds all of it folded
	g := newGroup(t)
	put(t, g, "a", 1, 1)
	checkTake(t, g, 0, 0)
	checkFetch(t, g, 0, 0, 1)
	checkSteal(t, g, 1, 0)
	fold(t, g, 1, 0, 1)
	checkSplit(t, g, 0, 64, 1, api.OK)
	checkRenew(t, g, 1, 0)
	checkLease(t, g, 0, -1, 3, 2)
	fence(t, g, 0, 0)
}

func TestAHoldBeginsAtTheMark(t *testing.T) { // P10, P11: TAKES
	g := groupOf(t, 3, 3)
	for range 5 {
		put(t, g, "a", 1, 1)
	}
	checkTake(t, g, 0, 0)
	fold(t, g, 0, 0, 2)
	checkFetch(t, g, 0, 0, 2)
	checkSteal(t, g, 1, 0)
	checkHolds(t, g, 1, api.Hold{Shard: 0, Epoch: 2, At: 2})
	checkHolds(t, g, 0, api.Hold{Shard: 0, Epoch: 1, At: 2, Buffer: 2})
	fold(t, g, 1, 0, 2)
	refuseTake(t, g, 2, api.ErrNone)
	ticks(g, 3)
	checkTake(t, g, 2, 0)
	checkHolds(t, g, 2, api.Hold{Shard: 0, Epoch: 3, At: 4})
}

func TestRenewLeavesAtAndBuffer(t *testing.T) { // P9
	g := newGroup(t)
	for range 5 {
		put(t, g, "a", 1, 1)
	}
	checkTake(t, g, 0, 0)
	fold(t, g, 0, 0, 2)
	checkFetch(t, g, 0, 0, 2)
	checkRenew(t, g, 0, 1)
	checkHolds(t, g, 0, api.Hold{Shard: 0, Epoch: 1, At: 2, Buffer: 2})
	checkLease(t, g, 0, 0, 2, 1)
}

func TestAShardWithRecordsLeftIsNotFinished(t *testing.T) { // P9, P10, P11
	c := plain()
	c.Batch = 1
	g := groupWith(t, c)
	put(t, g, "a", 1, 1)
	put(t, g, "a", 1, 1)
	checkTake(t, g, 0, 0)
	checkSplit(t, g, 0, 64, 1, api.OK)
	fold(t, g, 0, 0, 1)
	checkRenew(t, g, 0, 1)
	refuseTake(t, g, 0, api.ErrNone)
	refuseSteal(t, g, 1, 1, api.ErrWait)
	checkSteal(t, g, 1, 0)
	fold(t, g, 1, 0, 1)
	refuseSteal(t, g, 1, 0, api.ErrHeld)
	checkCrash(t, g, 1)
	refuseSteal(t, g, 1, 0, api.ErrWait) // finished now
	checkSteal(t, g, 0, 1)
	checkTake(t, g, 0, 2)
}

func TestAnOpenShardIsNeverFinished(t *testing.T) { // P9 to P11
	g := newGroup(t)
	put(t, g, "a", 1, 1)
	checkTake(t, g, 0, 0)
	fold(t, g, 0, 0, 1)
	checkRenew(t, g, 0, 1)
	checkSteal(t, g, 1, 0)
	checkHolds(t, g, 1, api.Hold{Shard: 0, Epoch: 2, At: 1})
}

func TestACrashLeavesTheSink(t *testing.T) { // P12
	g := newGroup(t)
	put(t, g, "a", 1, 1)
	put(t, g, "a", 2, 1)
	put(t, g, "a", 3, 1)
	checkTake(t, g, 0, 0)
	fold(t, g, 0, 0, 2)
	checkFetch(t, g, 0, 0, 1)
	sums := totals(t, g)
	checkCrash(t, g, 0)
	checkTotals(t, g, sums)
	checkMark(t, g, 0, 2, 1, 1)
	refuseCommit(t, g, 0, 0, false, api.ErrHold)
	checkSteal(t, g, 0, 0)
	checkHolds(t, g, 0, api.Hold{Shard: 0, Epoch: 2, At: 2}) // what was buffered is forgotten
	refuseCommit(t, g, 0, 0, false, api.ErrEmpty)
}
