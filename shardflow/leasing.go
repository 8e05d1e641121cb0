package shardflow

import (
	"shardflow/api"
	"shardflow/leases"
	"shardflow/memory"
	"shardflow/sink"
)

// Renew renews a worker's leases (P9).
func (g *Group) Renew(w int) (int, api.Errno) {
	if !g.hasWorker(w) {
		return 0, api.ErrWorker
	}
	worker := &g.workers[w]
	stages := g.sink.Stages(&g.log)
	left := 0
	for n := 0; n < len(stages); n++ {
		kept := g.renewHold(w, worker, n, stages[n] == sink.Finished)
		if kept {
			left++
		}
	}
	return left, api.OK
}

// Take lets a worker take a shard that is free (P10).
func (g *Group) Take(w int) (int, api.Errno) {
	if !g.hasWorker(w) {
		return 0, api.ErrWorker
	}
	worker := &g.workers[w]
	g.makeNotes(worker)
	n, found := g.findFree(worker)
	if !found {
		return 0, api.ErrNone
	}
	g.give(w, worker, n)
	return n, api.OK
}

// Steal lets a worker take a shard, free or not (P11).
func (g *Group) Steal(w int, shard int) api.Errno {
	if !g.hasWorker(w) {
		return api.ErrWorker
	}
	if !g.log.Has(shard) {
		return api.ErrShard
	}
	worker := &g.workers[w]
	_, held := worker.Hold(shard)
	if held {
		return api.ErrHeld
	}
	stage := g.sink.Stage(&g.log, shard)
	if stage != sink.Due {
		return api.ErrWait
	}
	g.give(w, worker, shard)
	return api.OK
}

// Crash lets a worker forget (P12).
func (g *Group) Crash(w int) api.Errno {
	if !g.hasWorker(w) {
		return api.ErrWorker
	}
	g.workers[w].Forget()
	return api.OK
}

// Lease tells the lease of a shard (P13).
func (g *Group) Lease(shard int) (api.Lease, api.Errno) {
	if !g.log.Has(shard) {
		return api.Lease{}, api.ErrShard
	}
	return g.leases.Of(shard), api.OK
}

// Holds tells what a worker holds (P13).
func (g *Group) Holds(w int) ([]api.Hold, api.Errno) {
	if !g.hasWorker(w) {
		return nil, api.ErrWorker
	}
	return g.workers[w].Holds(), api.OK
}

func (g *Group) hasWorker(w int) bool {
	return 0 <= w && w < len(g.workers)
}

// renewHold renews the lease of one hold, if there is that hold, and tells whether it is still there then.
func (g *Group) renewHold(w int, worker *memory.Memory, n int, finished bool) bool {
	hold, held := worker.Hold(n)
	if !held {
		return false
	}
	lease := g.leases.Of(n)
	if lease.Owner != w || lease.Epoch != hold.Epoch {
		worker.Drop(n)
		return false
	}
	if finished {
		g.leases.Free(n)
		worker.Drop(n)
		return false
	}
	g.leases.Renew(n)
	return true
}

func (g *Group) makeNotes(worker *memory.Memory) {
	count := g.log.Len()
	for n := 0; n < count; n++ {
		lease := g.leases.Of(n)
		worker.Note(n, lease.Counter, g.now)
	}
}

// findFree finds the first shard that a worker may take without stealing it; false, if there is none.
func (g *Group) findFree(worker *memory.Memory) (int, bool) {
	stages := g.sink.Stages(&g.log)
	for n := 0; n < len(stages); n++ {
		_, held := worker.Hold(n)
		free := g.isFree(worker, n)
		if stages[n] == sink.Due && !held && free {
			return n, true
		}
	}
	return 0, false
}

// isFree tells whether a shard's lease has no owner, or, as far as a worker can see, one that is not there any more.
func (g *Group) isFree(worker *memory.Memory, n int) bool {
	lease := g.leases.Of(n)
	if lease.Owner == leases.Nobody {
		return true
	}
	return worker.Noted(n, lease.Counter, g.now, g.config.Lease)
}

// give is what the document calls: a worker takes a shard.
func (g *Group) give(w int, worker *memory.Memory, n int) {
	epoch := g.leases.Give(n, w)
	done := g.sink.Done(n)
	worker.Keep(api.Hold{Shard: n, Epoch: epoch, At: done, Buffer: 0})
}
