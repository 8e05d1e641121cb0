// Package sink keeps which records are folded.
package sink

import (
	"shardflow/api"
	"shardflow/shards"
)

// Sink has a mark for each shard. More is not kept: the records stay in the log, and what they make follows from them and from the marks.
type Sink struct {
	marks [api.MaxShards]mark
}

// mark: the first done records of a shard are folded, the last of them by a hold of that epoch.
type mark struct {
	done, epoch int
}

// Done is how many records of a shard are folded.
func (s *Sink) Done(n int) int {
	if !has(n) {
		return 0
	}
	return s.marks[n].done
}

// Commit folds what a hold has buffered, and tells whether it did. It refuses a hold that is older than the last that it saw, and records that are not the next ones: so none is folded twice or left out, whoever believes to hold the shard.
func (s *Sink) Commit(h api.Hold) bool {
	if !has(h.Shard) {
		return false
	}
	old := s.marks[h.Shard]
	if h.Epoch < old.epoch || h.At != old.done {
		return false
	}
	s.marks[h.Shard] = mark{done: old.done + h.Buffer, epoch: h.Epoch}
	return true
}

// Mark tells how far a shard is folded.
func (s *Sink) Mark(log *shards.Log, n int) api.Mark {
	if !has(n) {
		return api.Mark{}
	}
	_, greatest := s.walk(log)
	return api.Mark{Done: s.marks[n].done, Epoch: s.marks[n].epoch, Watermark: greatest[n]}
}

func has(n int) bool {
	return 0 <= n && n < api.MaxShards
}
