package leases

import (
	"math"
	"testing"

	"shardflow/api"
)

func check(t *testing.T, table *Table, n int, owner int, counter int, epoch int) {
	t.Helper()
	want := api.Lease{Owner: owner, Counter: counter, Epoch: epoch}
	if got := table.Of(n); got != want {
		t.Fatalf("Of(%d) = %+v, want %+v", n, got, want)
	}
}

func TestALease(t *testing.T) { // P9, P10, P11
	table := New()
	for n := range 16 {
		check(t, &table, n, -1, 0, 0)
	}
	if epoch := table.Give(15, 2); epoch != 1 {
		t.Errorf("the first epoch is %d", epoch)
	}
	check(t, &table, 15, 2, 1, 1)
	table.Renew(15)
	table.Renew(15)
	check(t, &table, 15, 2, 3, 1)
	if epoch := table.Give(15, 0); epoch != 2 {
		t.Errorf("the second epoch is %d", epoch)
	}
	check(t, &table, 15, 0, 4, 2)
	table.Free(15)
	check(t, &table, 15, -1, 5, 2)
	if epoch := table.Give(15, 0); epoch != 3 {
		t.Errorf("the third epoch is %d", epoch)
	}
	check(t, &table, 15, 0, 6, 3)
	for n := range 15 {
		check(t, &table, n, -1, 0, 0)
	}
}

func TestShardsThatAreNotThere(t *testing.T) { // P1
	table := New()
	for _, n := range []int{math.MinInt, -1, 16, math.MaxInt} {
		table.Renew(n)
		table.Free(n)
		if epoch := table.Give(n, 1); epoch != 0 {
			t.Errorf("Give(%d, 1) = %d", n, epoch)
		}
		check(t, &table, n, -1, 0, 0)
	}
	if table != New() {
		t.Errorf("the table is %+v", table)
	}
}
