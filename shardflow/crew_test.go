package shardflow_test

import (
	"testing"

	"shardflow/api"
	"shardflow/shardflow"
)

// crew says in the document's words what the leases and the sink must be.
type crew struct {
	model
	config  api.Config
	now     int
	leases  [16]api.Lease
	workers []mind
	pool
}

type mind struct {
	holds map[int]api.Hold
	notes map[int]noted
}

type noted struct{ counter, since int }

func newMind() mind { return mind{holds: map[int]api.Hold{}, notes: map[int]noted{}} }

func newCrew(config api.Config) *crew {
	c := &crew{model: model{shards: []api.Shard{shard(0, 256, true, 0)}}, config: config, pool: newPool()}
	for n := range c.leases {
		c.leases[n].Owner = -1
	}
	for range config.Workers {
		c.workers = append(c.workers, newMind())
	}
	return c
}

func (c *crew) ready(n int) bool {
	for _, p := range c.shards[n].Parents {
		if !c.finished(p) {
			return false
		}
	}
	return true
}

func (c *crew) finished(n int) bool {
	return c.ready(n) && !c.shards[n].Open && c.marks[n].Done == c.shards[n].Count
}

func (c *crew) stranger(w int) bool { return w < 0 || w >= len(c.workers) }

func (c *crew) takes(w int, n int) {
	l := &c.leases[n]
	l.Owner = w
	l.Counter++
	l.Epoch++
	c.workers[w].holds[n] = api.Hold{Shard: n, Epoch: l.Epoch, At: c.marks[n].Done, Buffer: 0}
}

func (c *crew) renew(w int) (int, api.Errno) {
	if c.stranger(w) {
		return 0, api.ErrWorker
	}
	holds := c.workers[w].holds
	for n, h := range holds {
		l := &c.leases[n]
		switch {
		case l.Owner != w || l.Epoch != h.Epoch:
			delete(holds, n)
		case c.finished(n):
			l.Owner = -1
			l.Counter++
			delete(holds, n)
		default:
			l.Counter++
		}
	}
	return len(holds), api.OK
}

func (c *crew) take(w int) (int, api.Errno) {
	if c.stranger(w) {
		return 0, api.ErrWorker
	}
	m := c.workers[w]
	for n := range c.shards {
		if old, ok := m.notes[n]; !ok || old.counter != c.leases[n].Counter {
			m.notes[n] = noted{c.leases[n].Counter, c.now}
		}
	}
	for n := range c.shards {
		_, held := m.holds[n]
		free := c.leases[n].Owner == -1 || c.now-m.notes[n].since >= c.config.Lease
		if c.ready(n) && !c.finished(n) && !held && free {
			c.takes(w, n)
			return n, api.OK
		}
	}
	return 0, api.ErrNone
}

func (c *crew) steal(w int, n int) api.Errno {
	if c.stranger(w) {
		return api.ErrWorker
	}
	if c.missing(n) {
		return api.ErrShard
	}
	if _, held := c.workers[w].holds[n]; held {
		return api.ErrHeld
	}
	if !c.ready(n) || c.finished(n) {
		return api.ErrWait
	}
	c.takes(w, n)
	return api.OK
}

func (c *crew) crash(w int) api.Errno {
	if c.stranger(w) {
		return api.ErrWorker
	}
	c.workers[w] = newMind()
	return api.OK
}

func (c *crew) holding(w int, n int) (api.Hold, api.Errno) {
	if c.stranger(w) {
		return api.Hold{}, api.ErrWorker
	}
	if c.missing(n) {
		return api.Hold{}, api.ErrShard
	}
	h, held := c.workers[w].holds[n]
	if !held {
		return api.Hold{}, api.ErrHold
	}
	return h, api.OK
}

func (c *crew) fetch(w int, n int) (int, api.Errno) {
	h, e := c.holding(w, n)
	if e != api.OK {
		return 0, e
	}
	h.Buffer = min(len(c.records[n])-h.At, c.config.Batch)
	c.workers[w].holds[n] = h
	return h.Buffer, api.OK
}

func (c *crew) commit(w int, n int, lost bool) api.Errno {
	h, e := c.holding(w, n)
	if e != api.OK {
		return e
	}
	if h.Buffer == 0 {
		return api.ErrEmpty
	}
	if h.Epoch < c.marks[n].Epoch || h.At != c.marks[n].Done {
		if !lost {
			delete(c.workers[w].holds, n)
		}
		return api.ErrFenced
	}
	for i := h.At; i < h.At+h.Buffer; i++ {
		c.fold(c.config, c.shards, n, i)
	}
	c.marks[n].Done += h.Buffer
	c.marks[n].Epoch = h.Epoch
	if !lost {
		c.workers[w].holds[n] = api.Hold{Shard: n, Epoch: h.Epoch, At: h.At + h.Buffer, Buffer: 0}
	}
	return api.OK
}

func (c *crew) seen() seen {
	s := seen{shards: c.shards, leases: c.leases[:len(c.shards)]}
	for n := range c.shards {
		mark := c.marks[n]
		mark.Watermark = c.watermark(c.shards, n)
		s.marks = append(s.marks, mark)
	}
	for w := range 4 {
		var list []api.Hold
		for n := 0; w < len(c.workers) && n < 16; n++ {
			if h, held := c.workers[w].holds[n]; held {
				list = append(list, h)
			}
		}
		s.holds = append(s.holds, list)
	}
	return s
}

func (c *crew) logStep(t *testing.T, g *shardflow.Group, d *dice) {
	t.Helper()
	n := d.below(len(c.shards)+2) - 1
	switch d.below(12) {
	case 0, 1:
		at := d.below(258)
		if !c.missing(n) && d.below(2) == 0 {
			at = (c.shards[n].Lo + c.shards[n].Hi) / 2
		}
		want, wantErr := c.split(n, at)
		checkSplit(t, g, n, at, want, wantErr)
	case 2, 3:
		other := d.below(len(c.shards)+2) - 1
		want, wantErr := c.merge(n, other)
		checkMerge(t, g, n, other, want, wantErr)
	default:
		r := d.entry()
		wantShard, wantPlace, wantErr := c.put(r.key)
		if wantErr == api.OK {
			c.keep(wantShard, r)
		}
		if s, p, e := g.Put(r.key, r.value, r.time); s != wantShard || p != wantPlace || e != wantErr {
			t.Fatalf("Put(%+v) = %d, %d, %d, want %d, %d, %d", r, s, p, e, wantShard, wantPlace, wantErr)
		}
	}
}

func (c *crew) leaseStep(t *testing.T, g *shardflow.Group, d *dice) {
	t.Helper()
	w := d.below(len(c.workers)+2) - 1
	switch d.below(10) {
	case 0, 1:
		c.now++
		g.Tick()
	case 2, 3:
		want, wantErr := c.renew(w)
		if got, e := g.Renew(w); got != want || e != wantErr {
			t.Fatalf("Renew(%d) = %d, %d, want %d, %d", w, got, e, want, wantErr)
		}
	case 4:
		n := d.below(len(c.shards)+2) - 1
		want := c.steal(w, n)
		if e := g.Steal(w, n); e != want {
			t.Fatalf("Steal(%d, %d) = %d, want %d", w, n, e, want)
		}
	case 5:
		want := c.crash(w)
		if e := g.Crash(w); e != want {
			t.Fatalf("Crash(%d) = %d, want %d", w, e, want)
		}
	default:
		want, wantErr := c.take(w)
		if got, e := g.Take(w); got != want || e != wantErr {
			t.Fatalf("Take(%d) = %d, %d, want %d, %d", w, got, e, want, wantErr)
		}
	}
}

// anyHold is mostly a worker and a shard that it holds.
func (c *crew) anyHold(d *dice) (int, int) {
	w, n := d.below(len(c.workers)+2)-1, d.below(len(c.shards)+2)-1
	for range 20 {
		if _, e := c.holding(w, n); e == api.OK {
			break
		}
		w, n = d.below(len(c.workers)+2)-1, d.below(len(c.shards)+2)-1
	}
	return w, n
}

func (c *crew) foldStep(t *testing.T, g *shardflow.Group, d *dice) {
	t.Helper()
	w, n := c.anyHold(d)
	what := d.below(5)
	if what > 0 {
		want, wantErr := c.fetch(w, n)
		if got, e := g.Fetch(w, n); got != want || e != wantErr {
			t.Fatalf("Fetch(%d, %d) = %d, %d, want %d, %d", w, n, got, e, want, wantErr)
		}
	}
	if what < 4 {
		lost := d.below(4) == 0
		want := c.commit(w, n, lost)
		checkCommit(t, g, w, n, lost, want)
		if want == api.OK || want == api.ErrFenced {
			checkTotals(t, g, c.totals())
		}
	}
}

func (c *crew) step(t *testing.T, g *shardflow.Group, d *dice) {
	t.Helper()
	switch d.below(10) {
	case 0, 1, 2:
		c.logStep(t, g, d)
	case 3, 4, 5, 6:
		c.leaseStep(t, g, d)
	default:
		c.foldStep(t, g, d)
	}
}
