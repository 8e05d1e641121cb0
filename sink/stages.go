package sink

import (
	"shardflow/api"
	"shardflow/shards"
)

// Stage is how far a shard is.
type Stage int

const (
	Waiting  Stage = 0 // not ready, or there is no such shard
	Due      Stage = 1 // ready, and not finished
	Finished Stage = 2
)

// Stages has the stage of each shard, by its number.
type Stages [api.MaxShards]Stage

// Stage tells how far one shard is.
func (s *Sink) Stage(log *shards.Log, n int) Stage {
	if !has(n) {
		return Waiting
	}
	stages := s.Stages(log)
	return stages[n]
}

// Stages tells how far each shard is.
func (s *Sink) Stages(log *shards.Log) Stages {
	stages := Stages{}
	count := log.Len()
	// Parents have lesser numbers than their shards: in rising order their stages are known first.
	for n := 0; n < count && n < len(stages); n++ {
		parents := log.Parents(n)
		ready := stages.allFinished(parents)
		folded := s.allFolded(log, n)
		if ready && folded {
			stages[n] = Finished
		} else if ready {
			stages[n] = Due
		}
	}
	return stages
}

// allFolded tells whether nothing of a shard is left to fold, and nothing can come.
func (s *Sink) allFolded(log *shards.Log, n int) bool {
	closed := log.Closed(n)
	done := s.Done(n)
	return closed && done >= log.Count(n)
}

func (s Stages) allFinished(list []int) bool {
	for i := 0; i < len(list); i++ {
		n := list[i]
		if !has(n) || s[n] != Finished {
			return false
		}
	}
	return true
}
