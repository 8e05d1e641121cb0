package shardflow

import (
	"testing"

	"shardflow/api"
)

// No call tells the time or the configuration yet, so these look inside.

func TestTick(t *testing.T) { // P3, P8
	c := api.Config{Workers: 2, Lease: 3, Batch: 2, Width: 10, Slide: 5, Late: 7}
	one, e := New(c)
	if e != api.OK || one.now != 0 || one.config != c {
		t.Fatalf("New = %+v, %d", one, e)
	}
	other, e := New(c)
	if e != api.OK {
		t.Fatalf("New = %d", e)
	}
	for want := 1; want <= 1000; want++ {
		one.Tick()
		if one.now != want {
			t.Fatalf("after %d ticks the time is %d", want, one.now)
		}
	}
	if other.now != 0 {
		t.Errorf("the ticks of one group let the time %d go by in another", other.now)
	}
}

func TestTheLogDoesNotMoveTheTime(t *testing.T) { // P8
	g, e := New(api.Config{Workers: 1, Lease: 1, Batch: 1, Width: 1, Slide: 1})
	if e != api.OK {
		t.Fatalf("New = %d", e)
	}
	g.Tick()
	g.Put("a", 1, 500)
	g.Put("", 1, 500)
	g.Split(0, 64)
	g.Split(0, 64)
	g.Merge(1, 2)
	g.Merge(1, 2)
	g.Shards()
	if g.now != 1 {
		t.Errorf("the time is %d, want 1", g.now)
	}
}
