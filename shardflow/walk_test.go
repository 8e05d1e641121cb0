package shardflow_test

import (
	"testing"

	"shardflow/api"
	"shardflow/shardflow"
)

// model says in the document's words what the log must be.
type model struct {
	shards []api.Shard
}

func (m *model) put(key string) (int, int, api.Errno) {
	h := 0
	for _, b := range []byte(key) {
		h = (31*h + int(b)) % 256
	}
	for n := range m.shards {
		s := &m.shards[n]
		if s.Open && s.Lo <= h && h <= s.Hi-1 {
			if s.Count == 32 {
				return 0, 0, api.ErrFull
			}
			s.Count++
			return n, s.Count - 1, api.OK
		}
	}
	return -1, -1, -1 // no open shard: no answer is right
}

func (m *model) missing(n int) bool { return n < 0 || n >= len(m.shards) }

func (m *model) split(n int, at int) (int, api.Errno) {
	switch {
	case m.missing(n):
		return 0, api.ErrShard
	case !m.shards[n].Open:
		return 0, api.ErrClosed
	case !(at > m.shards[n].Lo && at < m.shards[n].Hi):
		return 0, api.ErrRange
	case len(m.shards)+2 > 16:
		return 0, api.ErrFull
	}
	m.shards[n].Open = false
	m.shards = append(m.shards, shard(m.shards[n].Lo, at, true, 0, n), shard(at, m.shards[n].Hi, true, 0, n))
	return len(m.shards) - 2, api.OK
}

func (m *model) merge(a int, b int) (int, api.Errno) {
	switch {
	case m.missing(a) || m.missing(b):
		return 0, api.ErrShard
	case !m.shards[a].Open || !m.shards[b].Open:
		return 0, api.ErrClosed
	case m.shards[a].Hi != m.shards[b].Lo:
		return 0, api.ErrRange
	case len(m.shards)+1 > 16:
		return 0, api.ErrFull
	}
	m.shards[a].Open = false
	m.shards[b].Open = false
	m.shards = append(m.shards, shard(m.shards[a].Lo, m.shards[b].Hi, true, 0, a, b))
	return len(m.shards) - 1, api.OK
}

// dice are the same in every run.
type dice struct{ state uint64 }

func (d *dice) below(n int) int {
	d.state = d.state*6364136223846793005 + 1442695040888963407
	return int((d.state >> 33) % uint64(n))
}

func (d *dice) key() string {
	key := make([]byte, 1+d.below(8))
	for i := range key {
		key[i] = byte('a' + d.below(26))
	}
	return string(key)
}

func walkStep(t *testing.T, g *shardflow.Group, m *model, d *dice) {
	t.Helper()
	switch d.below(20) {
	case 0, 1:
		n, at := d.below(19)-1, d.below(260)-2
		want, wantErr := m.split(n, at)
		checkSplit(t, g, n, at, want, wantErr)
	case 2, 3:
		a, b := d.below(19)-1, d.below(19)-1
		want, wantErr := m.merge(a, b)
		checkMerge(t, g, a, b, want, wantErr)
	case 4:
		g.Tick()
	default:
		key := d.key()
		wantShard, wantPlace, wantErr := m.put(key)
		if s, p, e := g.Put(key, d.below(9), d.below(9)); s != wantShard || p != wantPlace || e != wantErr {
			t.Fatalf("Put(%q) = %d, %d, %d, want %d, %d, %d", key, s, p, e, wantShard, wantPlace, wantErr)
		}
	}
}

func checkRanges(t *testing.T, list []api.Shard) {
	t.Helper()
	for h := range 256 {
		open := 0
		for _, s := range list {
			if s.Open && s.Lo <= h && h < s.Hi {
				open++
			}
		}
		if open != 1 {
			t.Fatalf("the hash %d is in the range of %d open shards: %+v", h, open, list)
		}
	}
}

func TestWalks(t *testing.T) { // P4 to P7
	for seed := range 200 {
		g := newGroup(t)
		m := &model{shards: []api.Shard{shard(0, 256, true, 0)}}
		d := &dice{state: uint64(seed)}
		for range 300 {
			walkStep(t, g, m, d)
			checkShards(t, g, m.shards...)
		}
		checkRanges(t, g.Shards())
	}
}
