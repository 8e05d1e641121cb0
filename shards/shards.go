// Package shards keeps the log: shards that split and merge, and their records.
package shards

import (
	"shardflow/api"
	"shardflow/record"
)

// Log has all shards, by their numbers. Each hash is at any time in the range of just one open shard.
type Log struct {
	shards []shard
}

type shard struct {
	lo, hi  int
	open    bool
	parents []int
	records []record.Record
}

// New makes a log of one shard, open for all hashes.
func New() Log {
	return Log{shards: []shard{{lo: 0, hi: record.Hashes, open: true}}}
}

// Put lays r behind the records of its shard, and answers the numbers of the shard and of the record.
func (l *Log) Put(r record.Record) (int, int, api.Errno) {
	hash := r.Key.Hash()
	n := l.home(hash)
	place := len(l.shards[n].records)
	if place >= api.MaxRecords {
		return 0, 0, api.ErrFull
	}
	l.shards[n].records = append(l.shards[n].records, r)
	return n, place, api.OK
}

// Split closes a shard and opens two for its range, which meet at the hash at; it answers the first of them.
func (l *Log) Split(n int, at int) (int, api.Errno) {
	if !l.Has(n) {
		return 0, api.ErrShard
	}
	lo, hi := l.shards[n].lo, l.shards[n].hi
	if !l.shards[n].open {
		return 0, api.ErrClosed
	}
	if at <= lo || at >= hi {
		return 0, api.ErrRange
	}
	if !l.hasRoom(2) {
		return 0, api.ErrFull
	}
	first := len(l.shards)
	l.shards[n].open = false
	l.shards = append(l.shards, shard{lo: lo, hi: at, open: true, parents: []int{n}})
	l.shards = append(l.shards, shard{lo: at, hi: hi, open: true, parents: []int{n}})
	return first, api.OK
}

// Merge closes two shards and opens one for both ranges, which it answers.
func (l *Log) Merge(a int, b int) (int, api.Errno) {
	hasA := l.Has(a)
	hasB := l.Has(b)
	if !hasA || !hasB {
		return 0, api.ErrShard
	}
	if !l.shards[a].open || !l.shards[b].open {
		return 0, api.ErrClosed
	}
	if l.shards[a].hi != l.shards[b].lo {
		return 0, api.ErrRange
	}
	if !l.hasRoom(1) {
		return 0, api.ErrFull
	}
	merged := len(l.shards)
	lo, hi := l.shards[a].lo, l.shards[b].hi
	l.shards[a].open = false
	l.shards[b].open = false
	l.shards = append(l.shards, shard{lo: lo, hi: hi, open: true, parents: []int{a, b}})
	return merged, api.OK
}

// List tells all shards, in lists that are the caller's.
func (l *Log) List() []api.Shard {
	list := make([]api.Shard, 0, len(l.shards))
	for i := 0; i < len(l.shards); i++ {
		told := l.shards[i].tell()
		list = append(list, told)
	}
	return list
}

// Len is how many shards there are.
func (l *Log) Len() int {
	return len(l.shards)
}

// Has tells whether there is a shard n.
func (l *Log) Has(n int) bool {
	return 0 <= n && n < len(l.shards)
}

// Closed tells whether there is a shard n, and it is closed.
func (l *Log) Closed(n int) bool {
	return l.Has(n) && !l.shards[n].open
}

// Count is how many records a shard has; 0, if there is no such shard.
func (l *Log) Count(n int) int {
	if !l.Has(n) {
		return 0
	}
	return len(l.shards[n].records)
}

// Record tells a record of a shard; one of zeros, if there is none.
func (l *Log) Record(n int, place int) record.Record {
	if place < 0 || place >= l.Count(n) {
		return record.Record{}
	}
	return l.shards[n].records[place]
}

// Parents tells the parents of a shard, in a list that is the caller's. Each has a lesser number than the shard.
func (l *Log) Parents(n int) []int {
	if !l.Has(n) {
		return nil
	}
	return l.shards[n].copyParents()
}

func (l *Log) hasRoom(more int) bool {
	return len(l.shards)+more <= api.MaxShards
}

// home is the open shard that has the hash. There is just one: if it is none of the others, it is shard 0.
func (l *Log) home(hash int) int {
	n := len(l.shards) - 1
	for n > 0 && !l.shards[n].accepts(hash) {
		n--
	}
	return n
}

func (s *shard) accepts(hash int) bool {
	return s.open && s.lo <= hash && hash < s.hi
}

// copyParents makes a list of its own: a caller who wrote into the shard's list would change the log.
func (s *shard) copyParents() []int {
	parents := make([]int, 0, len(s.parents))
	for i := 0; i < len(s.parents); i++ {
		parents = append(parents, s.parents[i])
	}
	return parents
}

func (s *shard) tell() api.Shard {
	parents := s.copyParents()
	return api.Shard{Lo: s.lo, Hi: s.hi, Open: s.open, Parents: parents, Count: len(s.records)}
}
