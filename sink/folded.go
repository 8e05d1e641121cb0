package sink

import (
	"shardflow/api"
	"shardflow/record"
	"shardflow/shards"
)

// noTime is below every time: the watermark where nothing is folded.
const noTime = -1

// Folded is a record that is folded, and the greatest time that came ahead of it: in its shard, or in those behind which its shard waited.
type Folded struct {
	Record record.Record
	Ahead  int
}

// watermarks are those of all shards, by their numbers.
type watermarks [api.MaxShards]int

// FoldedOf lists the records of a key that are folded, in the order in which they were.
func (s *Sink) FoldedOf(log *shards.Log, key record.Key) []Folded {
	all, _ := s.walk(log)
	list := []Folded{}
	for i := 0; i < len(all); i++ {
		if all[i].Record.Key == key {
			list = append(list, all[i])
		}
	}
	return list
}

// walk goes through all that is folded, shard by shard. The shards that a key goes through wait for one another, and have rising numbers: so its records come in the order in which they were folded.
func (s *Sink) walk(log *shards.Log) ([]Folded, watermarks) {
	list := []Folded{}
	greatest := watermarks{}
	count := log.Len()
	// Parents have lesser numbers than their shards: in rising order their watermarks are known first.
	for n := 0; n < count && n < len(greatest); n++ {
		parents := log.Parents(n)
		ahead := greatest.amongst(parents)
		done := s.Done(n)
		for place := 0; place < done; place++ {
			r := log.Record(n, place)
			list = append(list, Folded{Record: r, Ahead: ahead})
			ahead = later(ahead, r.Time)
		}
		greatest[n] = ahead
	}
	return list, greatest
}

// amongst is the greatest watermark of the shards in a list.
func (w watermarks) amongst(list []int) int {
	top := noTime
	for i := 0; i < len(list); i++ {
		n := list[i]
		if has(n) {
			top = later(top, w[n])
		}
	}
	return top
}

func later(a int, b int) int {
	if a > b {
		return a
	}
	return b
}
