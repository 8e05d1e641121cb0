package shardflow_test

import (
	"testing"

	"shardflow/api"
	"shardflow/shardflow"
)

// crew says in the document's words what the leases must be, as long as nothing is folded.
type crew struct {
	model
	now, lease int
	leases     [16]api.Lease
	workers    []mind
}

type mind struct {
	holds map[int]api.Hold
	notes map[int]noted
}

type noted struct{ counter, since int }

func newMind() mind { return mind{holds: map[int]api.Hold{}, notes: map[int]noted{}} }

func newCrew(workers int, lease int) *crew {
	c := &crew{model: model{shards: []api.Shard{shard(0, 256, true, 0)}}, lease: lease}
	for n := range c.leases {
		c.leases[n].Owner = -1
	}
	for range workers {
		c.workers = append(c.workers, newMind())
	}
	return c
}

func (c *crew) ready(n int) bool {
	for _, p := range c.shards[n].Parents {
		if !c.finished(p) {
			return false
		}
	}
	return true
}

func (c *crew) finished(n int) bool {
	return c.ready(n) && !c.shards[n].Open && c.shards[n].Count == 0
}

func (c *crew) stranger(w int) bool { return w < 0 || w >= len(c.workers) }

func (c *crew) takes(w int, n int) {
	l := &c.leases[n]
	l.Owner = w
	l.Counter++
	l.Epoch++
	c.workers[w].holds[n] = api.Hold{Shard: n, Epoch: l.Epoch}
}

func (c *crew) renew(w int) (int, api.Errno) {
	if c.stranger(w) {
		return 0, api.ErrWorker
	}
	holds := c.workers[w].holds
	for n, h := range holds {
		l := &c.leases[n]
		switch {
		case l.Owner != w || l.Epoch != h.Epoch:
			delete(holds, n)
		case c.finished(n):
			l.Owner = -1
			l.Counter++
			delete(holds, n)
		default:
			l.Counter++
		}
	}
	return len(holds), api.OK
}

func (c *crew) take(w int) (int, api.Errno) {
	if c.stranger(w) {
		return 0, api.ErrWorker
	}
	m := c.workers[w]
	for n := range c.shards {
		if old, ok := m.notes[n]; !ok || old.counter != c.leases[n].Counter {
			m.notes[n] = noted{c.leases[n].Counter, c.now}
		}
	}
	for n := range c.shards {
		_, held := m.holds[n]
		free := c.leases[n].Owner == -1 || c.now-m.notes[n].since >= c.lease
		if c.ready(n) && !c.finished(n) && !held && free {
			c.takes(w, n)
			return n, api.OK
		}
	}
	return 0, api.ErrNone
}

func (c *crew) steal(w int, n int) api.Errno {
	if c.stranger(w) {
		return api.ErrWorker
	}
	if c.missing(n) {
		return api.ErrShard
	}
	if _, held := c.workers[w].holds[n]; held {
		return api.ErrHeld
	}
	if !c.ready(n) || c.finished(n) {
		return api.ErrWait
	}
	c.takes(w, n)
	return api.OK
}

func (c *crew) crash(w int) api.Errno {
	if c.stranger(w) {
		return api.ErrWorker
	}
	c.workers[w] = newMind()
	return api.OK
}

func (c *crew) seen() seen {
	s := seen{shards: c.shards, leases: c.leases[:len(c.shards)]}
	for w := range 4 {
		var list []api.Hold
		for n := 0; w < len(c.workers) && n < 16; n++ {
			if h, held := c.workers[w].holds[n]; held {
				list = append(list, h)
			}
		}
		s.holds = append(s.holds, list)
	}
	return s
}

func (c *crew) logStep(t *testing.T, g *shardflow.Group, d *dice) {
	t.Helper()
	n := d.below(len(c.shards)+2) - 1
	switch d.below(4) {
	case 0:
		at := d.below(258)
		want, wantErr := c.split(n, at)
		checkSplit(t, g, n, at, want, wantErr)
	case 1, 2:
		other := d.below(len(c.shards)+2) - 1
		want, wantErr := c.merge(n, other)
		checkMerge(t, g, n, other, want, wantErr)
	default:
		if d.below(4) == 0 { // a shard with records is never finished here: so there are few
			key := d.key()
			c.put(key)
			g.Put(key, 1, 1)
		}
	}
}

func (c *crew) step(t *testing.T, g *shardflow.Group, d *dice) {
	t.Helper()
	w := d.below(len(c.workers)+2) - 1
	switch d.below(12) {
	case 0:
		c.logStep(t, g, d)
	case 1, 2:
		c.now++
		g.Tick()
	case 3, 4:
		want, wantErr := c.renew(w)
		if got, e := g.Renew(w); got != want || e != wantErr {
			t.Fatalf("Renew(%d) = %d, %d, want %d, %d", w, got, e, want, wantErr)
		}
	case 5:
		n := d.below(len(c.shards)+2) - 1
		want := c.steal(w, n)
		if e := g.Steal(w, n); e != want {
			t.Fatalf("Steal(%d, %d) = %d, want %d", w, n, e, want)
		}
	case 6:
		want := c.crash(w)
		if e := g.Crash(w); e != want {
			t.Fatalf("Crash(%d) = %d, want %d", w, e, want)
		}
	default:
		want, wantErr := c.take(w)
		if got, e := g.Take(w); got != want || e != wantErr {
			t.Fatalf("Take(%d) = %d, %d, want %d, %d", w, got, e, want, wantErr)
		}
	}
}

func TestLeaseWalks(t *testing.T) { // P9 to P13
	for seed := range 300 {
		d := &dice{state: uint64(seed)}
		workers, lease := 1+d.below(4), 1+d.below(5)
		g := groupOf(t, workers, lease)
		c := newCrew(workers, lease)
		for range 400 {
			c.step(t, g, d)
			checkSeen(t, g, c.seen())
		}
	}
}
