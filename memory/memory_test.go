package memory

import (
	"math"
	"slices"
	"testing"

	"shardflow/api"
)

func check(t *testing.T, m *Memory, want ...api.Hold) {
	t.Helper()
	if got := m.Holds(); !slices.Equal(got, want) {
		t.Fatalf("Holds() = %+v, want %+v", got, want)
	}
	for n := range 16 {
		i := slices.IndexFunc(want, func(h api.Hold) bool { return h.Shard == n })
		got, held := m.Hold(n)
		if held != (i >= 0) || held && got != want[i] || !held && got != (api.Hold{}) {
			t.Fatalf("Hold(%d) = %+v, %v, want one of %+v", n, got, held, want)
		}
	}
}

func TestHolds(t *testing.T) { // P13
	m := Memory{}
	check(t, &m)
	high := api.Hold{Shard: 15, Epoch: 4, At: 3, Buffer: 2}
	low := api.Hold{Shard: 0, Epoch: 1}
	middle := api.Hold{Shard: 7, Epoch: 2, At: 9, Buffer: 1}
	m.Keep(high)
	m.Keep(low)
	m.Keep(middle)
	check(t, &m, low, middle, high)
	middle.At = 10
	m.Keep(middle) // at most one for a shard
	check(t, &m, low, middle, high)
	m.Drop(7)
	m.Drop(8)
	check(t, &m, low, high)
	m.Drop(0)
	m.Drop(15)
	check(t, &m)
}

func TestHoldsAreTheCallers(t *testing.T) { // P2
	m := Memory{}
	m.Keep(api.Hold{Shard: 1, Epoch: 1})
	m.Keep(api.Hold{Shard: 2, Epoch: 1})
	m.Keep(api.Hold{Shard: 3, Epoch: 1})
	list := m.Holds()
	list = list[:cap(list)]
	for i := range list {
		list[i] = api.Hold{Shard: -9}
	}
	check(t, &m, api.Hold{Shard: 1, Epoch: 1}, api.Hold{Shard: 2, Epoch: 1}, api.Hold{Shard: 3, Epoch: 1})
}

func TestNotes(t *testing.T) { // P10
	m := Memory{}
	noted := func(n int, counter int, now int, units int, want bool) {
		t.Helper()
		if got := m.Noted(n, counter, now, units); got != want {
			t.Fatalf("Noted(%d, %d, %d, %d) = %v", n, counter, now, units, got)
		}
	}
	noted(15, 0, 100, 0, false) // there is no note, not one of the counter 0
	m.Note(15, 0, 5)
	noted(15, 0, 8, 3, true)
	noted(15, 0, 7, 3, false)
	noted(15, 1, 100, 3, false)
	m.Note(15, 0, 6) // noted since 5 all the same
	noted(15, 0, 8, 3, true)
	m.Note(15, 1, 7) // another counter: noted anew
	noted(15, 0, 100, 3, false)
	noted(15, 1, 9, 3, false)
	noted(15, 1, 10, 3, true)
	m.Note(15, 0, 20) // and back
	noted(15, 0, 22, 3, false)
	noted(15, 0, 23, 3, true)
	noted(14, 0, 100, 3, false)
}

func TestForget(t *testing.T) { // P12
	m := Memory{}
	for n := range 16 {
		m.Keep(api.Hold{Shard: n, Epoch: 1})
		m.Note(n, 0, 0)
	}
	m.Forget()
	check(t, &m)
	for n := range 16 {
		if m.Noted(n, 0, 100, 0) {
			t.Errorf("the note of shard %d is still there", n)
		}
	}
	if m != (Memory{}) {
		t.Errorf("still there: %+v", m)
	}
}

func TestShardsThatAreNotThere(t *testing.T) { // P1
	m := Memory{}
	for _, n := range []int{math.MinInt, -1, 16, math.MaxInt} {
		m.Keep(api.Hold{Shard: n, Epoch: 1})
		m.Drop(n)
		m.Note(n, 0, 0)
		if _, held := m.Hold(n); held || m.Noted(n, 0, 9, 1) {
			t.Errorf("there is a hold or a note for shard %d", n)
		}
	}
	check(t, &m)
	if m != (Memory{}) {
		t.Errorf("the memory is %+v", m)
	}
}
