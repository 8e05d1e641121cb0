package shardflow

import (
	"shardflow/api"
	"shardflow/memory"
	"shardflow/record"
	"shardflow/windows"
)

// Fetch lets a worker read records of a shard (P14).
func (g *Group) Fetch(w int, shard int) (int, api.Errno) {
	worker, hold, e := g.findHold(w, shard)
	if e != api.OK {
		return 0, e
	}
	hold.Buffer = g.log.Count(shard) - hold.At
	if hold.Buffer > g.config.Batch {
		hold.Buffer = g.config.Batch
	}
	worker.Keep(hold)
	return hold.Buffer, api.OK
}

// Commit folds what a worker has read into the sink (P15).
func (g *Group) Commit(w int, shard int, lost bool) api.Errno {
	worker, hold, e := g.findHold(w, shard)
	if e != api.OK {
		return e
	}
	if hold.Buffer == 0 {
		return api.ErrEmpty
	}
	folded := g.sink.Commit(hold)
	if !lost {
		hear(worker, hold, folded)
	}
	if !folded {
		return api.ErrFenced
	}
	return api.OK
}

// Mark tells how far a shard is folded (P16).
func (g *Group) Mark(shard int) (api.Mark, api.Errno) {
	if !g.log.Has(shard) {
		return api.Mark{}, api.ErrShard
	}
	return g.sink.Mark(&g.log, shard), api.OK
}

// Read tells what is folded for a key and a window (P17).
func (g *Group) Read(key string, start int) (api.Sum, api.Errno) {
	k, ok := record.ParseKey(key)
	if !ok {
		return api.Sum{}, api.ErrKey
	}
	if !windows.Begins(g.config, start) {
		return api.Sum{}, api.ErrWindow
	}
	folded := g.sink.FoldedOf(&g.log, k)
	sum := api.Sum{}
	for i := 0; i < len(folded); i++ {
		r := folded[i].Record
		if windows.Holds(g.config, start, r.Time) {
			late := r.Time+g.config.Late < folded[i].Ahead
			sum = windows.Add(sum, r.Value, late)
		}
	}
	return sum, api.OK
}

// Windows tells into which windows records of a key are folded (P17).
func (g *Group) Windows(key string) ([]int, api.Errno) {
	k, ok := record.ParseKey(key)
	if !ok {
		return nil, api.ErrKey
	}
	folded := g.sink.FoldedOf(&g.log, k)
	times := []int{}
	for i := 0; i < len(folded); i++ {
		times = append(times, folded[i].Record.Time)
	}
	return windows.Starts(g.config, times), api.OK
}

// findHold finds a worker and its hold for a shard, or tells the first thing that is wrong.
func (g *Group) findHold(w int, shard int) (*memory.Memory, api.Hold, api.Errno) {
	if !g.hasWorker(w) {
		return nil, api.Hold{}, api.ErrWorker
	}
	if !g.log.Has(shard) {
		return nil, api.Hold{}, api.ErrShard
	}
	worker := &g.workers[w]
	hold, held := worker.Hold(shard)
	if !held {
		return nil, api.Hold{}, api.ErrHold
	}
	return worker, hold, api.OK
}

// hear is what a worker does with the sink's answer, if it comes.
func hear(worker *memory.Memory, hold api.Hold, folded bool) {
	if !folded {
		worker.Drop(hold.Shard)
		return
	}
	hold.At += hold.Buffer
	hold.Buffer = 0
	worker.Keep(hold)
}
