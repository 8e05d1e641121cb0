package shardflow_test

import (
	"slices"
	"testing"

	"shardflow/api"
	"shardflow/shardflow"
)

func mustMark(t *testing.T, g *shardflow.Group, shard int) api.Mark {
	t.Helper()
	m, e := g.Mark(shard)
	if e != api.OK {
		t.Fatalf("Mark(%d) = %d", shard, e)
	}
	return m
}

// checkShardsWait looks that nothing is folded of a shard of which a parent is not finished.
func checkShardsWait(t *testing.T, g *shardflow.Group) {
	t.Helper()
	finished := []bool{}
	for n, s := range g.Shards() {
		done := mustMark(t, g, n).Done
		ready := true
		for _, p := range s.Parents {
			ready = ready && finished[p]
		}
		if done < 0 || done > s.Count || done > 0 && !ready {
			t.Fatalf("of shard %d, %+v, %d records are folded; ready: %t", n, s, done, ready)
		}
		finished = append(finished, ready && !s.Open && done == s.Count)
	}
}

// checkFirstParts looks that of each key just a first part of its records is folded, each once, in their order, and answers how many in all. The window that begins at 0 must hold all records.
func checkFirstParts(t *testing.T, g *shardflow.Group, puts map[string][]int) int {
	t.Helper()
	count := 0
	for key, all := range puts {
		got, e := g.Read(key, 0)
		if e != api.OK || got.Count > len(all) {
			t.Fatalf("Read(%q, 0) = %+v, %d, of %v", key, got, e, all)
		}
		got.Late = 0
		want := api.Sum{}
		if got.Count > 0 {
			list := []value{}
			for _, v := range all[:got.Count] {
				list = append(list, value{number: v})
			}
			want = sumOf(list)
		}
		if got != want {
			t.Fatalf("Read(%q, 0) = %+v, want %+v, of %v", key, got, want, all)
		}
		count += got.Count
	}
	return count
}

func folded(t *testing.T, g *shardflow.Group) (int, int) {
	t.Helper()
	done, all := 0, 0
	for n, s := range g.Shards() {
		done += mustMark(t, g, n).Done
		all += s.Count
	}
	return done, all
}

// wide is a configuration whose first window holds all records of the walks.
func (d *dice) wide() api.Config {
	c := d.config()
	c.Width, c.Slide = 100, 100
	return c
}

func TestEachRecordOnceAndInItsOrder(t *testing.T) { // P18
	for seed := range 200 {
		d := &dice{state: uint64(seed)}
		config := d.wide()
		g, c := groupWith(t, config), newCrew(config)
		for range 300 {
			c.step(t, g, d)
			checkShardsWait(t, g)
			count := checkFirstParts(t, g, c.puts)
			if done, _ := folded(t, g); count != done {
				t.Fatalf("%d records are folded, and the marks tell %d", count, done)
			}
		}
	}
}

// round is what the document calls so.
func round(t *testing.T, g *shardflow.Group, workers []int) {
	t.Helper()
	g.Tick()
	for _, w := range workers {
		g.Renew(w)
		g.Take(w)
		holds, e := g.Holds(w)
		if e != api.OK {
			t.Fatalf("Holds(%d) = %d", w, e)
		}
		for _, h := range holds {
			if n, e := g.Fetch(w, h.Shard); n > 0 && e == api.OK {
				g.Commit(w, h.Shard, false)
			}
		}
	}
}

// checkRounds looks that all is folded within as many rounds as the document allows.
func checkRounds(t *testing.T, g *shardflow.Group, lease int, workers ...int) {
	t.Helper()
	done, all := folded(t, g)
	for range lease + 3 + len(g.Shards()) + all - done {
		round(t, g, workers)
	}
	if done, all = folded(t, g); done != all {
		t.Fatalf("%d of %d records are folded: %+v", done, all, look(g))
	}
}

// some are one or more of the workers, in any order.
func (d *dice) some(workers int) []int {
	list := []int{}
	for w := range workers {
		list = slices.Insert(list, d.below(len(list)+1), w)
	}
	return list[:1+d.below(workers)]
}

func TestRoundsFoldEverything(t *testing.T) { // P18, P19: whatever was done before
	for seed := range 1500 {
		d := &dice{state: uint64(seed)}
		config := d.wide()
		config.Batch = 1 + d.below(3)
		g, c := groupWith(t, config), newCrew(config)
		for range d.below(250) {
			c.step(t, g, d)
		}
		checkRounds(t, g, config.Lease, d.some(config.Workers)...)
		checkShardsWait(t, g)
		_, all := folded(t, g)
		if count := checkFirstParts(t, g, c.puts); count != all {
			t.Fatalf("%d of %d records are folded", count, all)
		}
	}
}

func TestRoundsGoOnAgain(t *testing.T) { // P19: rounds, then more records, then rounds of others
	for seed := range 200 {
		d := &dice{state: uint64(seed)}
		config := d.wide()
		g, c := groupWith(t, config), newCrew(config)
		for range 4 {
			for range 40 {
				c.logStep(t, g, d)
			}
			checkRounds(t, g, config.Lease, d.some(config.Workers)...)
			checkShardsWait(t, g)
		}
		_, all := folded(t, g)
		if count := checkFirstParts(t, g, c.puts); count != all {
			t.Fatalf("%d of %d records are folded", count, all)
		}
	}
}

func TestRoundsWaitForTheLeasesOfOthers(t *testing.T) { // P19: all leases are those of a worker that is gone
	for lease := 1; lease <= 10; lease++ {
		g := groupWith(t, api.Config{Workers: 2, Lease: lease, Batch: 1, Width: 10, Slide: 10})
		for at := 1; at <= 7; at++ { // open: 1, 3, .. 13 and 14
			checkSplit(t, g, 2*at-2, at, 2*at-1, api.OK)
		}
		for range 3 {
			put(t, g, "a", 1, 1)
			put(t, g, "z", 1, 1)
		}
		for _, shard := range []int{1, 3, 5, 7, 9, 11, 13, 14} {
			checkSteal(t, g, 1, shard)
		}
		checkRounds(t, g, lease, 0)
		for _, shard := range []int{1, 3, 5, 7, 9, 11, 13, 14} {
			l, e := g.Lease(shard)
			if l.Owner != 0 || l.Epoch != 2 || e != api.OK {
				t.Fatalf("Lease(%d) = %+v, %d", shard, l, e)
			}
		}
	}
}

func TestRoundsAfterLostAnswers(t *testing.T) { // P19: a worker that is fenced must wait for its own leases
	for lease := 1; lease <= 10; lease++ {
		g := groupWith(t, api.Config{Workers: 1, Lease: lease, Batch: 1, Width: 10, Slide: 10})
		checkSplit(t, g, 0, 64, 1, api.OK)
		for range 3 {
			put(t, g, "ab", 1, 1)
			put(t, g, "a", 1, 1)
		}
		for shard := 1; shard <= 2; shard++ {
			checkSteal(t, g, 0, shard)
			checkFetch(t, g, 0, shard, 1)
			checkCommit(t, g, 0, shard, true, api.OK)
		}
		checkRounds(t, g, lease, 0)
		checkRead(t, g, "a", 0, api.Sum{Count: 3, Sum: 3, Min: 1, Max: 1, First: 1, Last: 1})
		checkRead(t, g, "ab", 0, api.Sum{Count: 3, Sum: 3, Min: 1, Max: 1, First: 1, Last: 1})
	}
}

func TestRoundsThroughALineOfShards(t *testing.T) { // P19: each waits for the one ahead of it
	g := groupWith(t, api.Config{Workers: 4, Lease: 10, Batch: 1, Width: 10, Slide: 10})
	puts := map[string][]int{}
	step := func() {
		for i := range 2 {
			put(t, g, "a", len(puts["a"])+i, 1)
		}
		puts["a"] = append(puts["a"], len(puts["a"]), len(puts["a"])+1)
	}
	step()
	for n := 0; n < 15; n += 3 {
		checkSplit(t, g, n, 128, n+1, api.OK)
		step()
		checkMerge(t, g, n+1, n+2, n+3, api.OK)
		step()
	}
	checkSteal(t, g, 3, 0) // and the first is held by one that is gone
	checkRounds(t, g, 10, 2, 0, 1)
	if count := checkFirstParts(t, g, puts); count != 22 {
		t.Fatalf("%d records are folded, want 22", count)
	}
}
