package shardflow_test

import (
	"testing"

	"shardflow/api"
	"shardflow/shardflow"
)

func grown(t *testing.T) *shardflow.Group {
	t.Helper()
	g := newGroup(t)
	checkPut(t, g, "a", 0, 0)
	checkSplit(t, g, 0, 64, 1, api.OK)
	checkPut(t, g, "ab", 1, 0)
	checkMerge(t, g, 1, 2, 3, api.OK)
	checkSplit(t, g, 3, 100, 4, api.OK)
	return g
}

func grownShards() []api.Shard {
	return []api.Shard{
		shard(0, 256, false, 1), shard(0, 64, false, 1, 0), shard(64, 256, false, 0, 0),
		shard(0, 256, false, 0, 1, 2), shard(0, 100, true, 0, 3), shard(100, 256, true, 0, 3),
	}
}

// spoil writes into a list, into the lists in it, and into all their spare room.
func spoil(list []api.Shard) {
	list = list[:cap(list)]
	for i := range list {
		parents := list[i].Parents[:cap(list[i].Parents)]
		for k := range parents {
			parents[k] = -9
		}
		list[i] = api.Shard{Lo: -9, Hi: -9, Open: !list[i].Open, Parents: []int{-9}, Count: -9}
	}
}

func TestWritingIntoAListChangesNothing(t *testing.T) { // P2
	g := grown(t)
	kept := g.Shards()
	for range 3 {
		spoil(g.Shards())
		checkShards(t, g, grownShards()...)
	}
	if !sameShards(kept, grownShards()) {
		t.Errorf("a list that came out before is now %+v", kept)
	}
	refuseSplit(t, g, 0, 64, api.ErrClosed)
	refuseSplit(t, g, 4, 100, api.ErrRange)
	checkPut(t, g, "a", 4, 0)
	checkMerge(t, g, 4, 5, 6, api.OK)
	want := grownShards()
	want[4] = shard(0, 100, false, 1, 3)
	want[5] = shard(100, 256, false, 0, 3)
	checkShards(t, g, append(want, shard(0, 256, true, 0, 4, 5))...)
}

func TestListsOfOneAnswerShareNoRoom(t *testing.T) { // P2
	g := grown(t)
	for i := range grownShards() {
		list := g.Shards()
		parents := list[i].Parents[:cap(list[i].Parents)]
		for k := range parents {
			parents[k] = -9
		}
		want := grownShards()
		for k := range want[i].Parents {
			want[i].Parents[k] = -9
		}
		if !sameShards(list, want) {
			t.Errorf("writing into the parents of shard %d made of the answer %+v", i, list)
		}
	}
}

func TestAppendingToAListChangesNothing(t *testing.T) { // P2
	g := grown(t)
	one, two := g.Shards(), g.Shards()
	for i := range one {
		one[i].Parents = append(one[i].Parents, -9, -9, -9)
	}
	_ = append(one, api.Shard{Lo: -9})
	if !sameShards(two, grownShards()) {
		t.Errorf("another list is now %+v", two)
	}
	checkShards(t, g, grownShards()...)
}

func TestAListIsNotChangedLater(t *testing.T) { // P2
	g := grown(t)
	kept := g.Shards()
	checkPut(t, g, "a", 4, 0)
	checkSplit(t, g, 4, 50, 6, api.OK)
	checkMerge(t, g, 7, 5, 8, api.OK)
	if !sameShards(kept, grownShards()) {
		t.Errorf("a list that came out before is now %+v", kept)
	}
}

func TestGroupsAreApart(t *testing.T) { // P2
	one, two := newGroup(t), newGroup(t)
	checkSplit(t, one, 0, 64, 1, api.OK)
	checkPut(t, one, "a", 2, 0)
	one.Tick()
	checkShards(t, two, shard(0, 256, true, 0))
	checkPut(t, two, "a", 0, 0)
	checkSplit(t, two, 0, 200, 1, api.OK)
	checkShards(t, one, shard(0, 256, false, 0), shard(0, 64, true, 0, 0), shard(64, 256, true, 1, 0))
	checkShards(t, grown(t), grown(t).Shards()...)
}

func TestTickChangesNoShard(t *testing.T) { // P8
	g := grown(t)
	for range 100 {
		g.Tick()
	}
	checkShards(t, g, grownShards()...)
}
