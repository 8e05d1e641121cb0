// Package leases keeps the leases of the shards.
package leases

import "shardflow/api"

// Nobody is the Owner of a lease that no worker has.
const Nobody = -1

// Table has the leases, by the numbers of the shards: also of shards that are not there yet.
type Table struct {
	leases [api.MaxShards]api.Lease
}

// New makes a table of leases that nobody ever had.
func New() Table {
	t := Table{}
	for n := 0; n < len(t.leases); n++ {
		t.leases[n].Owner = Nobody
	}
	return t
}

// Of tells the lease of a shard.
func (t *Table) Of(n int) api.Lease {
	if !t.has(n) {
		return api.Lease{Owner: Nobody}
	}
	return t.leases[n]
}

// Give makes a worker the owner of a shard's lease, whoever had it, and answers the new epoch.
func (t *Table) Give(n int, w int) int {
	if !t.has(n) {
		return 0
	}
	t.leases[n].Owner = w
	t.leases[n].Counter++
	t.leases[n].Epoch++
	return t.leases[n].Epoch
}

// Renew shows the other workers that the owner is still there.
func (t *Table) Renew(n int) {
	if !t.has(n) {
		return
	}
	t.leases[n].Counter++
}

// Free takes a shard's lease from its owner.
func (t *Table) Free(n int) {
	if !t.has(n) {
		return
	}
	t.leases[n].Owner = Nobody
	t.leases[n].Counter++
}

func (t *Table) has(n int) bool {
	return 0 <= n && n < len(t.leases)
}
