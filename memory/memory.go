// Package memory has what a worker keeps in its memory: its holds and its notes.
package memory

import "shardflow/api"

// Memory of one worker, by the numbers of the shards; at first there is nothing in it.
type Memory struct {
	places [api.MaxShards]place
}

// place is what a worker knows of one shard.
type place struct {
	held bool
	hold api.Hold
	note note
}

// note: the counter of a lease that was seen last, and since when.
type note struct {
	made           bool
	counter, since int
}

// Hold tells the hold for a shard; false, if there is none.
func (m *Memory) Hold(n int) (api.Hold, bool) {
	if !has(n) || !m.places[n].held {
		return api.Hold{}, false
	}
	return m.places[n].hold, true
}

// Keep lays in a hold, instead of the one for that shard if there is one.
func (m *Memory) Keep(h api.Hold) {
	if !has(h.Shard) {
		return
	}
	m.places[h.Shard].held = true
	m.places[h.Shard].hold = h
}

// Drop removes the hold for a shard.
func (m *Memory) Drop(n int) {
	if !has(n) {
		return
	}
	m.places[n].held = false
	m.places[n].hold = api.Hold{}
}

// Holds tells all holds, in rising order of the shards, in a list that is the caller's.
func (m *Memory) Holds() []api.Hold {
	list := []api.Hold{}
	for n := 0; n < len(m.places); n++ {
		if m.places[n].held {
			list = append(list, m.places[n].hold)
		}
	}
	return list
}

// Note notes the counter of a shard's lease. One that is noted already stays noted since when it was.
func (m *Memory) Note(n int, counter int, now int) {
	if !has(n) {
		return
	}
	old := m.places[n].note
	if old.made && old.counter == counter {
		return
	}
	m.places[n].note = note{made: true, counter: counter, since: now}
}

// Noted tells whether the counter of a shard's lease is noted, since at least so many units of time.
func (m *Memory) Noted(n int, counter int, now int, units int) bool {
	if !has(n) {
		return false
	}
	old := m.places[n].note
	return old.made && old.counter == counter && now-old.since >= units
}

// Forget removes all holds and all notes.
func (m *Memory) Forget() {
	for n := 0; n < len(m.places); n++ {
		m.places[n] = place{}
	}
}

func has(n int) bool {
	return 0 <= n && n < api.MaxShards
}
