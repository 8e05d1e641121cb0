// Package sink keeps how far the shards are folded.
package sink

import (
	"shardflow/api"
	"shardflow/shards"
)

// Sink has for each shard how many of its records are folded: the first ones.
type Sink struct {
	done [api.MaxShards]int
}

// Stage is how far a shard is.
type Stage int

const (
	Waiting  Stage = 0 // not ready, or there is no such shard
	Due      Stage = 1 // ready, and not finished
	Finished Stage = 2
)

// Stages has the stage of each shard, by its number.
type Stages [api.MaxShards]Stage

// Done is how many records of a shard are folded.
func (s *Sink) Done(n int) int {
	if n < 0 || n >= len(s.done) {
		return 0
	}
	return s.done[n]
}

// Advance counts more records of a shard as folded.
func (s *Sink) Advance(n int, more int) {
	if n < 0 || n >= len(s.done) {
		return
	}
	s.done[n] += more
}

// Stage tells how far one shard is.
func (s *Sink) Stage(log *shards.Log, n int) Stage {
	stages := s.Stages(log)
	if n < 0 || n >= len(stages) {
		return Waiting
	}
	return stages[n]
}

// Stages tells how far each shard is.
func (s *Sink) Stages(log *shards.Log) Stages {
	stages := Stages{}
	count := log.Len()
	// Parents have lesser numbers than their shards: in rising order their stages are known first.
	for n := 0; n < count && n < len(stages); n++ {
		parents := log.Parents(n)
		ready := stages.allFinished(parents)
		folded := s.allFolded(log, n)
		if ready && folded {
			stages[n] = Finished
		} else if ready {
			stages[n] = Due
		}
	}
	return stages
}

// allFolded tells whether nothing of a shard is left to fold, and nothing can come.
func (s *Sink) allFolded(log *shards.Log, n int) bool {
	closed := log.Closed(n)
	done := s.Done(n)
	return closed && done >= log.Count(n)
}

func (s Stages) allFinished(list []int) bool {
	for i := 0; i < len(list); i++ {
		n := list[i]
		if n < 0 || n >= len(s) || s[n] != Finished {
			return false
		}
	}
	return true
}
