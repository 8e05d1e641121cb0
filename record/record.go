// Package record has the records of the log, and their keys.
package record

import "shardflow/api"

// Hashes is how many hashes there are: they go from 0 to Hashes - 1.
const Hashes = 256

// Key has the letters of a key, with zeros behind them. It is an array, not the text itself, so that the log keeps nothing that a caller handed in.
type Key [api.MaxKey]byte

// Record is what is put into the log.
type Record struct {
	Key         Key
	Value, Time int
}

// Make makes a record, or tells the first thing that is wrong with it.
func Make(text string, value int, time int) (Record, api.Errno) {
	key, ok := ParseKey(text)
	if !ok {
		return Record{}, api.ErrKey
	}
	if value > api.MaxValue || value < -api.MaxValue {
		return Record{}, api.ErrValue
	}
	if time < 0 || time > api.MaxTime {
		return Record{}, api.ErrTime
	}
	return Record{Key: key, Value: value, Time: time}, api.OK
}

// ParseKey makes a key of a text; false, if the text is none.
func ParseKey(text string) (Key, bool) {
	// The length goes first: the text may be longer than the array.
	if len(text) < 1 || len(text) > api.MaxKey {
		return Key{}, false
	}
	key := Key{}
	for i := 0; i < len(text); i++ {
		if text[i] < 'a' || text[i] > 'z' {
			return Key{}, false
		}
		key[i] = text[i]
	}
	return key, true
}

// Hash is the key's hash, which tells its shard.
func (k Key) Hash() int {
	h := 0
	// No letter is 0, so the first 0 is behind the key's end.
	for i := 0; i < len(k) && k[i] != 0; i++ {
		h = (31*h + int(k[i])) % Hashes
	}
	return h
}
