package shardflow_test

import (
	"math"
	"slices"
	"strings"
	"testing"

	"shardflow/api"
	"shardflow/shardflow"
)

func TestMark(t *testing.T) { // P1, P16
	g := newGroup(t)
	checkMark(t, g, 0, 0, 0, -1)
	put(t, g, "a", 1, 0)
	checkMark(t, g, 0, 0, 0, -1)
	checkTake(t, g, 0, 0)
	checkMark(t, g, 0, 0, 0, -1) // the epoch is that of a commit, not the lease's
	fold(t, g, 0, 0, 1)
	checkMark(t, g, 0, 1, 1, 0)
	for _, shard := range []int{math.MinInt, -1, 1, 15, 16, math.MaxInt} {
		if m, e := g.Mark(shard); m != (api.Mark{}) || e != api.ErrShard {
			t.Errorf("Mark(%d) = %+v, %d", shard, m, e)
		}
	}
}

func TestWatermarks(t *testing.T) { // P16
	g := newGroup(t)
	put(t, g, "a", 1, 30)
	put(t, g, "a", 1, 20)
	checkSplit(t, g, 0, 64, 1, api.OK)
	put(t, g, "ab", 1, 50) // shard 1
	put(t, g, "a", 1, 40)  // shard 2
	checkMerge(t, g, 1, 2, 3, api.OK)
	put(t, g, "a", 1, 45)
	checkTake(t, g, 0, 0)
	fold(t, g, 0, 0, 2)
	for n, epoch := range []int{1, 0, 0, 0} {
		checkMark(t, g, n, 2*epoch, epoch, 30) // through parents that are not finished too
	}
	checkTake(t, g, 0, 1)
	checkTake(t, g, 0, 2)
	fold(t, g, 0, 2, 1)
	checkMark(t, g, 2, 1, 1, 40)
	checkMark(t, g, 3, 0, 0, 40)
	fold(t, g, 0, 1, 1)
	checkMark(t, g, 3, 0, 0, 50)
	checkMark(t, g, 2, 1, 1, 40)
	checkTake(t, g, 0, 3)
	fold(t, g, 0, 3, 1)
	checkMark(t, g, 3, 1, 1, 50)
	checkRead(t, g, "a", 45, alone(1, 1)) // late against the other parent
}

func TestReadRefuses(t *testing.T) { // P1, P17
	g := newGroup(t)
	put(t, g, "a", 1, 7)
	checkTake(t, g, 0, 0)
	fold(t, g, 0, 0, 1)
	before := totals(t, g)
	for _, key := range []string{"", "A", "a ", "aA", "a\x00", "ä", "abcdefghi", "{", "`", strings.Repeat("a", 1000000)} {
		for _, start := range []int{math.MinInt, -5, -1, 0, 3, 5, math.MaxInt} { // ErrWindow comes behind
			if s, e := g.Read(key, start); s != (api.Sum{}) || e != api.ErrKey {
				t.Errorf("Read of a key of %d bytes, %d = %+v, %d", len(key), start, s, e)
			}
		}
		if l, e := g.Windows(key); l != nil || e != api.ErrKey {
			t.Errorf("Windows of a key of %d bytes = %v, %d", len(key), l, e)
		}
	}
	for _, start := range []int{math.MinInt, -10, -5, -1, 1, 3, 4, 6, 1000001, math.MaxInt} {
		if s, e := g.Read("a", start); s != (api.Sum{}) || e != api.ErrWindow {
			t.Errorf("Read(a, %d) = %+v, %d", start, s, e)
		}
	}
	checkTotals(t, g, before)
}

func TestReadWhereNothingIsFolded(t *testing.T) { // P17
	g := newGroup(t)
	put(t, g, "a", 4, 7)
	put(t, g, "a", 5, 7)
	checkRead(t, g, "a", 5, api.Sum{})
	checkWindows(t, g, "a")
	checkTake(t, g, 0, 0)
	fold(t, g, 0, 0, 2)
	sum := api.Sum{Count: 2, Sum: 9, Min: 4, Max: 5, First: 4, Last: 5}
	checkRead(t, g, "a", 0, sum)
	checkRead(t, g, "a", 5, sum)
	for _, start := range []int{10, 995, 1000000, 1000005, math.MaxInt - math.MaxInt%5} {
		checkRead(t, g, "a", start, api.Sum{})
	}
	for _, key := range []string{"b", "aa", "ab", "aaaaaaaa", "z"} {
		checkRead(t, g, key, 5, api.Sum{})
		checkWindows(t, g, key)
	}
}

func TestKeysOfOneHashAreApart(t *testing.T) { // P17: the hash of both is 32
	g := newGroup(t)
	put(t, g, "aa", 1, 1)
	put(t, g, "ii", 2, 11)
	checkTake(t, g, 0, 0)
	fold(t, g, 0, 0, 2)
	checkRead(t, g, "aa", 0, alone(1, 0))
	checkRead(t, g, "ii", 10, alone(2, 0))
	checkWindows(t, g, "aa", 0)
	checkWindows(t, g, "ii", 5, 10)
}

func TestLateRecords(t *testing.T) { // A record is late, P17
	for _, late := range []int{0, 1, 10, 100} {
		c := api.Config{Workers: 1, Lease: 1, Batch: 8, Width: 100, Slide: 100, Late: late}
		g := groupWith(t, c)
		put(t, g, "b", 1, 150)
		put(t, g, "b", 1, 150)      // as late as the one ahead of it
		put(t, g, "a", 2, 150-late) // just not late
		put(t, g, "c", 3, 149-late) // late, against a record of another key
		put(t, g, "c", 3, 149-late) // and this too: what is late itself is no measure
		put(t, g, "b", 1, 151)      // never late
		checkTake(t, g, 0, 0)
		fold(t, g, 0, 0, 6)
		checkRead(t, g, "b", 100, api.Sum{Count: 3, Sum: 3, Min: 1, Max: 1, First: 1, Last: 1})
		checkRead(t, g, "a", (150-late)/100*100, alone(2, 0))
		checkRead(t, g, "c", (149-late)/100*100, api.Sum{Count: 2, Sum: 6, Min: 3, Max: 3, First: 3, Last: 3, Late: 2})
	}
}

func TestAFirstRecordIsNotLate(t *testing.T) { // A record is late: there is nothing ahead of it
	g := newGroup(t)
	put(t, g, "a", 1, 0)
	put(t, g, "b", 1, 0)
	checkTake(t, g, 0, 0)
	fold(t, g, 0, 0, 2)
	checkRead(t, g, "a", 0, alone(1, 0))
	checkRead(t, g, "b", 0, alone(1, 0))
}

func TestLateAgainstTheParents(t *testing.T) { // A record is late
	g := newGroup(t)
	put(t, g, "z", 1, 90)
	checkSplit(t, g, 0, 100, 1, api.OK)
	checkSplit(t, g, 1, 50, 3, api.OK) // 1 is closed without records: its watermark is its parent's
	put(t, g, "a", 2, 89)              // shard 4, late
	put(t, g, "b", 3, 90)              // shard 4, not late
	checkTake(t, g, 0, 0)
	fold(t, g, 0, 0, 1)
	checkTake(t, g, 0, 2)
	checkTake(t, g, 0, 3)
	checkTake(t, g, 0, 4)
	fold(t, g, 0, 4, 2)
	checkRead(t, g, "a", 85, alone(2, 1))
	checkRead(t, g, "b", 90, alone(3, 0))
}

func TestLateDoesNotHangOnOtherShards(t *testing.T) { // A record is late: shards that are no parents do not matter
	for _, first := range []int{1, 2} {
		g := newGroup(t)
		checkSplit(t, g, 0, 64, 1, api.OK)
		put(t, g, "ab", 1, 90) // shard 1
		put(t, g, "a", 2, 5)   // shard 2
		checkTake(t, g, 0, 1)
		checkTake(t, g, 0, 2)
		fold(t, g, 0, first, 1)
		fold(t, g, 0, 3-first, 1)
		checkRead(t, g, "a", 5, alone(2, 0))
		checkMark(t, g, 2, 1, 1, 5)
	}
}

func TestLateDoesNotHangOnTheBatch(t *testing.T) { // A record is late
	for batch := 1; batch <= 8; batch++ {
		c := plain()
		c.Batch = batch
		g := groupWith(t, c)
		for _, time := range []int{20, 5, 6, 21, 7, 22, 8} {
			put(t, g, "a", time, time)
		}
		checkTake(t, g, 0, 0)
		for {
			n, e := g.Fetch(0, 0)
			if n == 0 || e != api.OK {
				break
			}
			checkCommit(t, g, 0, 0, false, api.OK)
		}
		checkRead(t, g, "a", 5, api.Sum{Count: 4, Sum: 26, Min: 5, Max: 8, First: 5, Last: 8, Late: 4})
		checkRead(t, g, "a", 20, api.Sum{Count: 3, Sum: 63, Min: 20, Max: 22, First: 20, Last: 22})
	}
}

func TestARecordIsInEachWindowThatHoldsIt(t *testing.T) { // A window, P17
	g := newGroup(t) // Width 10, Slide 5
	put(t, g, "a", 1, 4)
	put(t, g, "a", 2, 5)
	put(t, g, "a", 4, 14)
	put(t, g, "a", 8, 15)
	put(t, g, "a", 16, 1000000)
	checkTake(t, g, 0, 0)
	fold(t, g, 0, 0, 2)
	fold(t, g, 0, 0, 2)
	fold(t, g, 0, 0, 1)
	checkWindows(t, g, "a", 0, 5, 10, 15, 999995, 1000000)
	checkRead(t, g, "a", 0, api.Sum{Count: 2, Sum: 3, Min: 1, Max: 2, First: 1, Last: 2})
	checkRead(t, g, "a", 5, api.Sum{Count: 2, Sum: 6, Min: 2, Max: 4, First: 2, Last: 4})
	checkRead(t, g, "a", 10, api.Sum{Count: 2, Sum: 12, Min: 4, Max: 8, First: 4, Last: 8})
	checkRead(t, g, "a", 15, alone(8, 0))
	checkRead(t, g, "a", 20, api.Sum{})
	checkRead(t, g, "a", 999990, api.Sum{})
	checkRead(t, g, "a", 999995, alone(16, 0))
	checkRead(t, g, "a", 1000000, alone(16, 0))
}

func TestASumGoesOnThroughTheShards(t *testing.T) { // P17, P18
	g := newGroup(t)
	put(t, g, "a", 1000000, 1)
	checkSplit(t, g, 0, 64, 1, api.OK)
	put(t, g, "a", 1, 1) // shard 2: too great from here on
	checkMerge(t, g, 1, 2, 3, api.OK)
	put(t, g, "a", -5, 1) // shard 3
	checkTake(t, g, 0, 0)
	fold(t, g, 0, 0, 1)
	checkTake(t, g, 0, 2)
	checkRead(t, g, "a", 0, alone(1000000, 0))
	fold(t, g, 0, 2, 1)
	checkRead(t, g, "a", 0, api.Sum{Count: 2, Min: 1, Max: 1000000, First: 1000000, Last: 1, Over: true})
	checkTake(t, g, 0, 3)
	fold(t, g, 0, 3, 1)
	checkRead(t, g, "a", 0, api.Sum{Count: 3, Min: -5, Max: 1000000, First: 1000000, Last: -5, Over: true})
}

func TestWindowsAreTheCallers(t *testing.T) { // P2
	g := newGroup(t)
	put(t, g, "a", 1, 12)
	put(t, g, "a", 1, 90)
	checkTake(t, g, 0, 0)
	fold(t, g, 0, 0, 2)
	kept, _ := g.Windows("a")
	for range 3 {
		list, _ := g.Windows("a")
		list = list[:cap(list)]
		for i := range list {
			list[i] = -9
		}
		checkWindows(t, g, "a", 5, 10, 85, 90)
	}
	empty, _ := g.Windows("b")
	_ = append(empty, -9)
	checkWindows(t, g, "b")
	put(t, g, "a", 1, 50)
	fold(t, g, 0, 0, 1)
	checkWindows(t, g, "a", 5, 10, 45, 50, 85, 90)
	if !slices.Equal(kept, []int{5, 10, 85, 90}) {
		t.Errorf("a list that came out before is now %v", kept)
	}
}

func TestSinksOfTwoGroupsAreApart(t *testing.T) { // P2
	one, two := newGroup(t), newGroup(t)
	put(t, one, "a", 1, 1)
	put(t, two, "a", 2, 1)
	checkTake(t, one, 0, 0)
	fold(t, one, 0, 0, 1)
	checkMark(t, two, 0, 0, 0, -1)
	checkRead(t, two, "a", 0, api.Sum{})
	checkTake(t, two, 0, 0)
	fold(t, two, 0, 0, 1)
	checkRead(t, one, "a", 0, alone(1, 0))
	checkRead(t, two, "a", 0, alone(2, 0))
}

func TestFullShards(t *testing.T) { // P1, P14 to P17: as many shards and records as there may be
	g := groupWith(t, api.Config{Workers: 1, Lease: 1, Batch: 8, Width: 100, Slide: 25})
	times := 0
	for n := 0; n < 15; n += 3 { // "a" goes through the shards 0, 1, 3, 4, .. 15
		fillAndFold(t, g, n, &times)
		checkSplit(t, g, n, 128, n+1, api.OK)
		fillAndFold(t, g, n+1, &times)
		checkMerge(t, g, n+1, n+2, n+3, api.OK)
	}
	fillAndFold(t, g, 15, &times)
	starts, e := g.Windows("a")
	if len(starts) != 352 || e != api.OK {
		t.Fatalf("Windows(a): %d starts, %d", len(starts), e)
	}
	for i, start := range starts {
		if start != 25*i {
			t.Fatalf("start %d is %d", i, start)
		}
		if i+3 < len(starts) { // the last ones have fewer records
			checkRead(t, g, "a", start, api.Sum{Count: 4, Sum: 4*i + 6, Min: i, Max: i + 3, First: i, Last: i + 3})
		}
	}
}

// fillAndFold puts 32 records of rising times into a shard, and folds them.
func fillAndFold(t *testing.T, g *shardflow.Group, shard int, times *int) {
	t.Helper()
	checkSteal(t, g, 0, shard)
	for range 32 {
		put(t, g, "a", *times, 25**times)
		*times++
	}
	refusePut(t, g, "a", 1, 1, api.ErrFull)
	for range 4 {
		fold(t, g, 0, shard, 8)
	}
	checkFetch(t, g, 0, shard, 0)
}
