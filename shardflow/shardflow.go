// Package shardflow: workers that read a log together, each record once, whoever holds what: see DOC.md.
package shardflow

import (
	"shardflow/api"
	"shardflow/config"
	"shardflow/leases"
	"shardflow/memory"
	"shardflow/record"
	"shardflow/shards"
	"shardflow/sink"
)

// Group is a log, its workers and their sink.
type Group struct {
	config  api.Config
	now     int
	log     shards.Log
	sink    sink.Sink
	leases  leases.Table
	workers []memory.Memory
}

// New makes a group (P3).
func New(c api.Config) (*Group, api.Errno) {
	if !config.Valid(c) {
		return nil, api.ErrConfig
	}
	log := shards.New()
	table := leases.New()
	workers := make([]memory.Memory, c.Workers)
	return &Group{config: c, log: log, leases: table, workers: workers}, api.OK
}

// Put lays a record into the log (P4).
func (g *Group) Put(key string, value int, time int) (int, int, api.Errno) {
	r, e := record.Make(key, value, time)
	if e != api.OK {
		return 0, 0, e
	}
	return g.log.Put(r)
}

// Split splits a shard (P5).
func (g *Group) Split(shard int, at int) (int, api.Errno) { return g.log.Split(shard, at) }

// Merge merges two shards (P6).
func (g *Group) Merge(a int, b int) (int, api.Errno) { return g.log.Merge(a, b) }

// Shards tells all shards (P7).
func (g *Group) Shards() []api.Shard { return g.log.List() }

// Tick lets a unit of time go by (P8).
func (g *Group) Tick() { g.now++ }
