package sink

import (
	"math"
	"slices"
	"testing"

	"shardflow/api"
	"shardflow/record"
	"shardflow/shards"
)

func checkMark(t *testing.T, s *Sink, log *shards.Log, n int, done int, epoch int, watermark int) {
	t.Helper()
	want := api.Mark{Done: done, Epoch: epoch, Watermark: watermark}
	if got := s.Mark(log, n); got != want || s.Done(n) != done {
		t.Fatalf("Mark(%d) = %+v, Done %d, want %+v", n, got, s.Done(n), want)
	}
}

func checkFolded(t *testing.T, s *Sink, log *shards.Log, key string, want ...Folded) {
	t.Helper()
	k, ok := record.ParseKey(key)
	if !ok {
		t.Fatalf("%q is no key", key)
	}
	if got := s.FoldedOf(log, k); !slices.Equal(got, want) {
		t.Fatalf("FoldedOf(%q) = %v, want %v", key, got, want)
	}
}

func TestCommitGoesByEpochAndPlace(t *testing.T) { // P15
	for _, h := range []struct {
		epoch, at int
		folds     bool
	}{
		{5, 3, true}, {6, 3, true}, {math.MaxInt, 3, true},
		{4, 3, false}, {0, 3, false}, {math.MinInt, 3, false},
		{5, 2, false}, {5, 4, false}, {6, 0, false}, {6, 5, false}, {4, 2, false},
	} {
		s, log := Sink{}, shards.New()
		for range 5 {
			putAt(t, &log, "a", 7)
		}
		if !s.Commit(api.Hold{Shard: 0, Epoch: 5, At: 0, Buffer: 3}) {
			t.Fatalf("the first is refused")
		}
		checkMark(t, &s, &log, 0, 3, 5, 7)
		before := s
		if got := s.Commit(api.Hold{Shard: 0, Epoch: h.epoch, At: h.at, Buffer: 2}); got != h.folds {
			t.Errorf("the epoch %d, at %d: %t", h.epoch, h.at, got)
		}
		if h.folds {
			checkMark(t, &s, &log, 0, 5, h.epoch, 7)
		} else if s != before {
			t.Errorf("the epoch %d, at %d: refused, and the sink is %+v", h.epoch, h.at, s)
		}
	}
}

func TestCommitIsOneShardsAlone(t *testing.T) { // P15
	s, log := Sink{}, shards.New()
	split(t, &log, 0, 64)
	put(t, &log, "ab")
	put(t, &log, "a")
	put(t, &log, "a")
	fold(t, &s, 2, 1)
	checkMark(t, &s, &log, 0, 0, 0, -1)
	checkMark(t, &s, &log, 1, 0, 0, -1)
	checkMark(t, &s, &log, 2, 1, 1, 1)
}

func TestShardsThatAreNotThere(t *testing.T) { // P1
	s, log := Sink{}, shards.New()
	for _, n := range []int{math.MinInt, -1, 16, math.MaxInt} {
		if s.Commit(api.Hold{Shard: n, Epoch: 1, At: 0, Buffer: 5}) {
			t.Errorf("shard %d: something is folded", n)
		}
		if s.Done(n) != 0 || s.Stage(&log, n) != Waiting || s.Mark(&log, n) != (api.Mark{}) {
			t.Errorf("shard %d: %d, %d, %+v", n, s.Done(n), s.Stage(&log, n), s.Mark(&log, n))
		}
	}
	if s != (Sink{}) {
		t.Errorf("the sink is %+v", s)
	}
}

func TestTheWatermarkGoesByWhatIsFolded(t *testing.T) { // The watermark
	s, log := Sink{}, shards.New()
	checkMark(t, &s, &log, 0, 0, 0, -1)
	for _, time := range []int{0, 5, 3, 9} {
		putAt(t, &log, "a", time)
	}
	for i, want := range []int{-1, 0, 5, 5, 9} {
		if got := s.Mark(&log, 0).Watermark; got != want {
			t.Errorf("with %d records folded the watermark is %d, want %d", i, got, want)
		}
		if i < 4 {
			fold(t, &s, 0, 1)
		}
	}
}

func TestTheWatermarksOfParents(t *testing.T) { // The watermark
	s, log := Sink{}, shards.New()
	putAt(t, &log, "a", 10)
	putAt(t, &log, "a", 20)
	split(t, &log, 0, 64)
	putAt(t, &log, "ab", 5)
	putAt(t, &log, "a", 30)
	merge(t, &log, 1, 2)
	split(t, &log, 3, 50) // closed without records
	putAt(t, &log, "a", 40)
	all := func(want ...int) {
		t.Helper()
		for n := range want {
			if got := s.Mark(&log, n).Watermark; got != want[n] {
				t.Fatalf("the watermark of shard %d is %d, want %v", n, got, want)
			}
		}
	}
	all(-1, -1, -1, -1, -1, -1)
	fold(t, &s, 0, 1) // a parent that is not finished has a watermark too
	all(10, 10, 10, 10, 10, 10)
	fold(t, &s, 0, 1)
	all(20, 20, 20, 20, 20, 20)
	fold(t, &s, 1, 1)
	all(20, 20, 20, 20, 20, 20)
	fold(t, &s, 2, 1)
	all(20, 20, 30, 30, 30, 30)
	fold(t, &s, 5, 1)
	all(20, 20, 30, 30, 30, 40)
}

func TestTheGreaterOfTwoParents(t *testing.T) { // The watermark
	for _, times := range [][2]int{{3, 8}, {8, 3}, {8, 8}, {0, 8}} {
		s, log := Sink{}, shards.New()
		split(t, &log, 0, 64)
		putAt(t, &log, "ab", times[0])
		putAt(t, &log, "a", times[1])
		merge(t, &log, 1, 2)
		fold(t, &s, 1, 1)
		fold(t, &s, 2, 1)
		if got := s.Mark(&log, 3).Watermark; got != 8 {
			t.Errorf("parents of the watermarks %v make %d", times, got)
		}
	}
}

func TestFoldedTellsTheTimeAhead(t *testing.T) { // A record is late
	s, log := Sink{}, shards.New()
	one := putAt(t, &log, "a", 12)
	putAt(t, &log, "ab", 14)
	two := putAt(t, &log, "a", 3)
	split(t, &log, 0, 64)
	putAt(t, &log, "ab", 90)
	three := putAt(t, &log, "a", 7)
	four := putAt(t, &log, "a", 20)
	five := putAt(t, &log, "a", 20)
	checkFolded(t, &s, &log, "a")
	fold(t, &s, 0, 2)
	checkFolded(t, &s, &log, "a", Folded{one, -1})
	fold(t, &s, 0, 1)
	fold(t, &s, 1, 1) // no parent of the shard that goes on with the key
	checkFolded(t, &s, &log, "a", Folded{one, -1}, Folded{two, 14})
	fold(t, &s, 2, 3)
	checkFolded(t, &s, &log, "a", Folded{one, -1}, Folded{two, 14}, Folded{three, 14}, Folded{four, 14}, Folded{five, 20})
	checkFolded(t, &s, &log, "b")
}

func TestFoldedListsAreFresh(t *testing.T) { // P2
	s, log := Sink{}, shards.New()
	one := putAt(t, &log, "a", 12)
	fold(t, &s, 0, 1)
	list := s.FoldedOf(&log, one.Key)
	list[0] = Folded{}
	checkFolded(t, &s, &log, "a", Folded{one, -1})
}
