package shards

import (
	"math"
	"slices"
	"testing"

	"shardflow/api"
	"shardflow/record"
)

func mustMake(t *testing.T, text string, value int, time int) record.Record {
	t.Helper()
	r, e := record.Make(text, value, time)
	if e != api.OK {
		t.Fatalf("Make(%q, %d, %d) = %d", text, value, time, e)
	}
	return r
}

func mustPut(t *testing.T, l *Log, r record.Record) {
	t.Helper()
	if _, _, e := l.Put(r); e != api.OK {
		t.Fatalf("Put(%v) = %d", r, e)
	}
}

func checkRecords(t *testing.T, l *Log, n int, want []record.Record) {
	t.Helper()
	if l.Count(n) != len(want) {
		t.Fatalf("shard %d has %d records, want %d", n, l.Count(n), len(want))
	}
	for i := range want {
		if got := l.Record(n, i); got != want[i] {
			t.Errorf("shard %d, record %d is %v, want %v", n, i, got, want[i])
		}
	}
	for _, i := range []int{math.MinInt, -1, len(want), len(want) + 1, math.MaxInt} {
		if got := l.Record(n, i); got != (record.Record{}) {
			t.Errorf("shard %d, record %d is %v", n, i, got)
		}
	}
}

func TestRecordsAreKeptInOrder(t *testing.T) { // P4
	l := New()
	zero := []record.Record{mustMake(t, "a", 7, 12), mustMake(t, "z", -7, 3), mustMake(t, "a", 7, 12)}
	for _, r := range zero {
		mustPut(t, &l, r)
	}
	if n, e := l.Split(0, 100); n != 1 || e != api.OK {
		t.Fatalf("Split(0, 100) = %d, %d", n, e)
	}
	low := []record.Record{mustMake(t, "a", 1, 5), mustMake(t, "ab", 2, 4)}
	high := []record.Record{mustMake(t, "z", 3, 9), mustMake(t, "y", 1000000, 1000000)}
	mustPut(t, &l, high[0])
	mustPut(t, &l, low[0])
	mustPut(t, &l, low[1])
	mustPut(t, &l, high[1])
	if n, e := l.Merge(1, 2); n != 3 || e != api.OK {
		t.Fatalf("Merge(1, 2) = %d, %d", n, e)
	}
	both := []record.Record{mustMake(t, "z", 0, 0), mustMake(t, "a", 0, 1)}
	mustPut(t, &l, both[0])
	mustPut(t, &l, both[1])
	checkRecords(t, &l, 0, zero)
	checkRecords(t, &l, 1, low)
	checkRecords(t, &l, 2, high)
	checkRecords(t, &l, 3, both)
}

func TestNoRecordIsLostAtAFullShard(t *testing.T) { // P1, P4
	l := New()
	var want []record.Record
	for i := range 32 {
		r := mustMake(t, "k", i, 100-i)
		want = append(want, r)
		mustPut(t, &l, r)
	}
	for range 3 {
		if n, place, e := l.Put(mustMake(t, "a", 99, 99)); n != 0 || place != 0 || e != api.ErrFull {
			t.Fatalf("Put into a full shard = %d, %d, %d", n, place, e)
		}
	}
	checkRecords(t, &l, 0, want)
}

func TestWhatTheLogTellsOfAShard(t *testing.T) { // P5 to P7
	l := New()
	mustPut(t, &l, mustMake(t, "a", 1, 1))
	mustPut(t, &l, mustMake(t, "z", 1, 1))
	l.Split(0, 100)
	mustPut(t, &l, mustMake(t, "z", 1, 1))
	l.Merge(1, 2)
	want := []struct {
		closed  bool
		count   int
		parents []int
	}{{true, 2, nil}, {true, 0, []int{0}}, {true, 1, []int{0}}, {false, 0, []int{1, 2}}}
	if l.Len() != len(want) {
		t.Fatalf("Len() = %d, want %d", l.Len(), len(want))
	}
	for n, w := range want {
		if !l.Has(n) || l.Closed(n) != w.closed || l.Count(n) != w.count || !slices.Equal(l.Parents(n), w.parents) {
			t.Errorf("shard %d: %v, %v, %d, %v, want %+v", n, l.Has(n), l.Closed(n), l.Count(n), l.Parents(n), w)
		}
	}
	for _, n := range []int{math.MinInt, -1, 4, 16, math.MaxInt} {
		if l.Has(n) || l.Closed(n) || l.Count(n) != 0 || len(l.Parents(n)) != 0 || l.Record(n, 0) != (record.Record{}) {
			t.Errorf("shard %d: %v, %v, %d, %v", n, l.Has(n), l.Closed(n), l.Count(n), l.Parents(n))
		}
	}
}

func TestParentsAreTheCallers(t *testing.T) { // P2
	l := New()
	l.Split(0, 100)
	l.Merge(1, 2)
	parents := l.Parents(3)
	for i := range parents[:cap(parents)] {
		parents[:cap(parents)][i] = -9
	}
	if got := l.Parents(3); !slices.Equal(got, []int{1, 2}) {
		t.Errorf("Parents(3) = %v", got)
	}
}
