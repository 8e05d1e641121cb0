package sink

import (
	"testing"

	"shardflow/api"
	"shardflow/record"
	"shardflow/shards"
)

func put(t *testing.T, log *shards.Log, key string) {
	t.Helper()
	putAt(t, log, key, 1)
}

func putAt(t *testing.T, log *shards.Log, key string, time int) record.Record {
	t.Helper()
	r, e := record.Make(key, 1, time)
	if e != api.OK {
		t.Fatalf("Make(%q, 1, %d) = %d", key, time, e)
	}
	if _, _, e := log.Put(r); e != api.OK {
		t.Fatalf("Put(%q) = %d", key, e)
	}
	return r
}

// fold folds the next records of a shard.
func fold(t *testing.T, s *Sink, n int, count int) {
	t.Helper()
	if !s.Commit(api.Hold{Shard: n, Epoch: 1, At: s.Done(n), Buffer: count}) {
		t.Fatalf("the sink refuses %d records of shard %d", count, n)
	}
}

func split(t *testing.T, log *shards.Log, n int, at int) {
	t.Helper()
	if _, e := log.Split(n, at); e != api.OK {
		t.Fatalf("Split(%d, %d) = %d", n, at, e)
	}
}

func merge(t *testing.T, log *shards.Log, a int, b int) {
	t.Helper()
	if _, e := log.Merge(a, b); e != api.OK {
		t.Fatalf("Merge(%d, %d) = %d", a, b, e)
	}
}

// check takes all stages behind those that are named to be Waiting: there are no such shards.
func check(t *testing.T, s *Sink, log *shards.Log, want ...Stage) {
	t.Helper()
	all := Stages{}
	copy(all[:], want)
	if got := s.Stages(log); got != all {
		t.Fatalf("Stages() = %v, want %v", got, all)
	}
	for n := range all {
		if got := s.Stage(log, n); got != all[n] {
			t.Fatalf("Stage(%d) = %d, want %d", n, got, all[n])
		}
	}
}

func TestAnOpenShardIsNotFinished(t *testing.T) { // READY, FINISHED
	s, log := Sink{}, shards.New()
	check(t, &s, &log, Due)
	put(t, &log, "a")
	check(t, &s, &log, Due)
	fold(t, &s, 0, 1)
	check(t, &s, &log, Due)
}

func TestAClosedShardIsFinishedWhenAllIsFolded(t *testing.T) { // READY, FINISHED
	s, log := Sink{}, shards.New()
	put(t, &log, "a")
	put(t, &log, "z")
	put(t, &log, "z")
	split(t, &log, 0, 100)
	check(t, &s, &log, Due, Waiting, Waiting)
	fold(t, &s, 0, 2)
	check(t, &s, &log, Due, Waiting, Waiting)
	fold(t, &s, 0, 1)
	check(t, &s, &log, Finished, Due, Due)
	if s.Done(0) != 3 || s.Done(1) != 0 {
		t.Errorf("Done = %d, %d", s.Done(0), s.Done(1))
	}
}

func TestAnEmptyShardIsNotFinishedAheadOfItsParents(t *testing.T) { // FINISHED
	s, log := Sink{}, shards.New()
	put(t, &log, "a")
	split(t, &log, 0, 100)
	split(t, &log, 1, 50) // closed, without records
	split(t, &log, 3, 25) // and this too
	check(t, &s, &log, Due, Waiting, Waiting, Waiting, Waiting, Waiting, Waiting)
	fold(t, &s, 0, 1)
	check(t, &s, &log, Finished, Finished, Due, Finished, Due, Due, Due)
}

func TestAMergedShardWaitsForBothParents(t *testing.T) { // READY
	for first := 1; first <= 2; first++ {
		s, log := Sink{}, shards.New()
		split(t, &log, 0, 64)
		put(t, &log, "ab") // shard 1
		put(t, &log, "a")  // shard 2
		merge(t, &log, 1, 2)
		check(t, &s, &log, Finished, Due, Due, Waiting)
		fold(t, &s, first, 1)
		want := []Stage{Finished, Due, Due, Waiting}
		want[first] = Finished
		check(t, &s, &log, want...)
		fold(t, &s, 3-first, 1)
		check(t, &s, &log, Finished, Finished, Finished, Due)
	}
}

func TestSixteenShards(t *testing.T) { // READY, FINISHED
	s, log := Sink{}, shards.New()
	want := []Stage{Finished}
	for last := 0; last < 15; last += 3 {
		split(t, &log, last, 100)
		merge(t, &log, last+1, last+2)
		want = append(want, Finished, Finished, Finished)
	}
	want[15] = Due
	check(t, &s, &log, want...)
}
