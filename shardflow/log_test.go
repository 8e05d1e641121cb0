package shardflow_test

import (
	"math"
	"reflect"
	"strings"
	"testing"

	"shardflow/api"
	"shardflow/shardflow"
)

func plain() api.Config {
	return api.Config{Workers: 2, Lease: 3, Batch: 2, Width: 10, Slide: 5, Late: 0}
}

func groupWith(t *testing.T, c api.Config) *shardflow.Group {
	t.Helper()
	g, e := shardflow.New(c)
	if g == nil || e != api.OK {
		t.Fatalf("New(%+v) = %v, %d", c, g, e)
	}
	return g
}

func newGroup(t *testing.T) *shardflow.Group {
	t.Helper()
	return groupWith(t, plain())
}

func shard(lo int, hi int, open bool, count int, parents ...int) api.Shard {
	return api.Shard{Lo: lo, Hi: hi, Open: open, Count: count, Parents: parents}
}

// sameShards takes nil for an empty list of parents: both may come out.
func sameShards(got []api.Shard, want []api.Shard) bool {
	if len(got) != len(want) {
		return false
	}
	for i := range got {
		a, b := got[i], want[i]
		if len(a.Parents)+len(b.Parents) == 0 {
			a.Parents, b.Parents = nil, nil
		}
		if !reflect.DeepEqual(a, b) {
			return false
		}
	}
	return true
}

func checkShards(t *testing.T, g *shardflow.Group, want ...api.Shard) {
	t.Helper()
	if got := g.Shards(); !sameShards(got, want) {
		t.Fatalf("Shards() = %+v, want %+v", got, want)
	}
}

func checkPut(t *testing.T, g *shardflow.Group, key string, shard int, place int) {
	t.Helper()
	if s, p, e := g.Put(key, 1, 1); s != shard || p != place || e != api.OK {
		t.Fatalf("Put(%q) = %d, %d, %d, want %d, %d, OK", key, s, p, e, shard, place)
	}
}

func checkSplit(t *testing.T, g *shardflow.Group, shard int, at int, want int, wantErr api.Errno) {
	t.Helper()
	if n, e := g.Split(shard, at); n != want || e != wantErr {
		t.Fatalf("Split(%d, %d) = %d, %d, want %d, %d", shard, at, n, e, want, wantErr)
	}
}

func checkMerge(t *testing.T, g *shardflow.Group, a int, b int, want int, wantErr api.Errno) {
	t.Helper()
	if n, e := g.Merge(a, b); n != want || e != wantErr {
		t.Fatalf("Merge(%d, %d) = %d, %d, want %d, %d", a, b, n, e, want, wantErr)
	}
}

func refuseSplit(t *testing.T, g *shardflow.Group, shard int, at int, want api.Errno) {
	t.Helper()
	before := g.Shards()
	checkSplit(t, g, shard, at, 0, want)
	checkShards(t, g, before...)
}

func refuseMerge(t *testing.T, g *shardflow.Group, a int, b int, want api.Errno) {
	t.Helper()
	before := g.Shards()
	checkMerge(t, g, a, b, 0, want)
	checkShards(t, g, before...)
}

func refusePut(t *testing.T, g *shardflow.Group, key string, value int, time int, want api.Errno) {
	t.Helper()
	before := g.Shards()
	if s, p, e := g.Put(key, value, time); s != 0 || p != 0 || e != want {
		t.Fatalf("Put of a key of %d bytes, %d, %d = %d, %d, %d, want %d", len(key), value, time, s, p, e, want)
	}
	checkShards(t, g, before...)
}

func TestNewRefuses(t *testing.T) { // P1, P3
	turns := []func(c *api.Config, n int){
		func(c *api.Config, n int) { c.Workers = n },
		func(c *api.Config, n int) { c.Lease = n },
		func(c *api.Config, n int) { c.Batch = n },
		func(c *api.Config, n int) { c.Width = n },
		func(c *api.Config, n int) { c.Slide = n },
		func(c *api.Config, n int) { c.Late = n },
	}
	for i, turn := range turns {
		for _, n := range []int{math.MinInt, -1, 101, math.MaxInt} {
			c := plain()
			turn(&c, n)
			if g, e := shardflow.New(c); g != nil || e != api.ErrConfig {
				t.Errorf("field %d is %d: New = %v, %d, want nil, ErrConfig", i, n, g, e)
			}
		}
	}
	if g, e := shardflow.New(api.Config{}); g != nil || e != api.ErrConfig {
		t.Errorf("New of zeros = %v, %d", g, e)
	}
}

func TestNewHasOneShard(t *testing.T) { // P3, P7
	for _, c := range []api.Config{
		plain(),
		{Workers: 1, Lease: 1, Batch: 1, Width: 1, Slide: 1, Late: 0},
		{Workers: 4, Lease: 10, Batch: 8, Width: 100, Slide: 25, Late: 100},
		{Workers: 4, Lease: 10, Batch: 8, Width: 100, Slide: 100, Late: 100},
	} {
		g, e := shardflow.New(c)
		if g == nil || e != api.OK {
			t.Fatalf("New(%+v) = %v, %d", c, g, e)
		}
		checkShards(t, g, shard(0, 256, true, 0))
	}
}

func TestExampleTwo(t *testing.T) { // P4 to P7
	g := newGroup(t)
	checkPut(t, g, "a", 0, 0)
	checkSplit(t, g, 0, 64, 1, api.OK)
	checkShards(t, g, shard(0, 256, false, 1), shard(0, 64, true, 0, 0), shard(64, 256, true, 0, 0))
	checkPut(t, g, "a", 2, 0)
	checkPut(t, g, "ab", 1, 0)
	refuseMerge(t, g, 2, 1, api.ErrRange)
	refuseSplit(t, g, 0, 9, api.ErrClosed)
	checkShards(t, g, shard(0, 256, false, 1), shard(0, 64, true, 1, 0), shard(64, 256, true, 1, 0))
}

func TestPutGoesByTheHash(t *testing.T) { // P4, example 1
	hashes := []struct {
		key  string
		hash int
	}{{"a", 97}, {"b", 98}, {"ab", 33}, {"ba", 63}, {"z", 122}, {"zz", 64}, {"aaaaaaaa", 128}, {"abcdefgh", 132}}
	for _, c := range hashes {
		g := newGroup(t)
		checkSplit(t, g, 0, c.hash, 1, api.OK)
		checkSplit(t, g, 2, c.hash+1, 3, api.OK)
		checkPut(t, g, c.key, 3, 0) // the one shard of this hash alone
		checkPut(t, g, c.key, 3, 1)
	}
}

func TestPutAtTheEndsOfTheRange(t *testing.T) { // P4: the hashes 0 and 255
	g := newGroup(t)
	checkPut(t, g, "zzzzzzzz", 0, 0)
	checkPut(t, g, "hg", 0, 1)
	checkSplit(t, g, 0, 1, 1, api.OK)
	checkSplit(t, g, 2, 255, 3, api.OK)
	checkPut(t, g, "zzzzzzzz", 1, 0)
	checkPut(t, g, "hg", 4, 0)
	checkPut(t, g, "a", 3, 0)
}

func TestPutTakesTheBounds(t *testing.T) { // P4
	g := newGroup(t)
	for i, c := range []struct {
		key         string
		value, time int
	}{{"a", 0, 0}, {"z", 1000000, 0}, {"abcdefgh", -1000000, 0}, {"zzzzzzzz", 0, 1000000}, {"az", -1000000, 1000000}} {
		if s, p, e := g.Put(c.key, c.value, c.time); s != 0 || p != i || e != api.OK {
			t.Errorf("Put(%q, %d, %d) = %d, %d, %d", c.key, c.value, c.time, s, p, e)
		}
	}
}

func TestPutRefuses(t *testing.T) { // P1, P4
	g := newGroup(t)
	checkPut(t, g, "a", 0, 0)
	for _, key := range []string{"", "A", "Z", "`", "{", "0", " ", "a ", " a", "a\x00", "\x00", "\xff", "\xe1", "é", "aé", "abcdefghi", "abcdefgH", strings.Repeat("a", 256), strings.Repeat("a", 257), strings.Repeat("z", 1<<22)} {
		refusePut(t, g, key, 0, 0, api.ErrKey)
		refusePut(t, g, key, math.MaxInt, 0, api.ErrKey)
		refusePut(t, g, key, 0, math.MinInt, api.ErrKey)
		refusePut(t, g, key, math.MinInt, math.MaxInt, api.ErrKey)
	}
	for _, value := range []int{1000001, -1000001, math.MaxInt, math.MinInt} {
		refusePut(t, g, "a", value, 0, api.ErrValue)
		refusePut(t, g, "a", value, -1, api.ErrValue)
	}
	for _, time := range []int{-1, 1000001, math.MaxInt, math.MinInt} {
		refusePut(t, g, "a", 1000000, time, api.ErrTime)
	}
	checkPut(t, g, "a", 0, 1)
}

func TestPutIntoAFullShard(t *testing.T) { // P1, P4: MaxRecords
	g := newGroup(t)
	checkSplit(t, g, 0, 64, 1, api.OK)
	for i := range 32 {
		checkPut(t, g, "a", 2, i)
	}
	refusePut(t, g, "a", 1, 1, api.ErrFull)
	refusePut(t, g, "z", 1, 1, api.ErrFull)
	refusePut(t, g, "Z", 1, 1, api.ErrKey)
	refusePut(t, g, "z", 1000001, 1, api.ErrValue)
	refusePut(t, g, "z", 1, -1, api.ErrTime)
	checkPut(t, g, "ab", 1, 0) // the other shard has room
	checkMerge(t, g, 1, 2, 3, api.OK)
	checkPut(t, g, "a", 3, 0) // and so has a new one
	checkShards(t, g, shard(0, 256, false, 0), shard(0, 64, false, 1, 0), shard(64, 256, false, 32, 0), shard(0, 256, true, 1, 1, 2))
}

func TestSplitRefuses(t *testing.T) { // P1, P5
	g := newGroup(t)
	for _, n := range []int{math.MinInt, -1, 1, 15, 16, math.MaxInt} {
		for _, at := range []int{math.MinInt, 0, 64, 256, math.MaxInt} {
			refuseSplit(t, g, n, at, api.ErrShard)
		}
	}
	for _, at := range []int{math.MinInt, -1, 0, 256, 257, math.MaxInt} {
		refuseSplit(t, g, 0, at, api.ErrRange)
	}
	checkSplit(t, g, 0, 64, 1, api.OK)
	for _, at := range []int{math.MinInt, 0, 64, 256, math.MaxInt} {
		refuseSplit(t, g, 0, at, api.ErrClosed) // ahead of ErrRange
	}
	refuseSplit(t, g, 1, 64, api.ErrRange)
	refuseSplit(t, g, 1, 65, api.ErrRange)
	refuseSplit(t, g, 2, 64, api.ErrRange)
	refuseSplit(t, g, 2, 63, api.ErrRange)
	refuseSplit(t, g, 3, 65, api.ErrShard)
}

func TestSplitBesideTheEnds(t *testing.T) { // P5: at = Lo + 1 and at = Hi - 1
	g := newGroup(t)
	checkSplit(t, g, 0, 1, 1, api.OK)
	checkSplit(t, g, 2, 255, 3, api.OK)
	checkShards(t, g, shard(0, 256, false, 0), shard(0, 1, true, 0, 0), shard(1, 256, false, 0, 0), shard(1, 255, true, 0, 2), shard(255, 256, true, 0, 2))
	for at := -1; at <= 2; at++ {
		refuseSplit(t, g, 1, at, api.ErrRange) // a range of one hash
	}
}

func TestMergeRefuses(t *testing.T) { // P1, P6
	g := newGroup(t)
	checkSplit(t, g, 0, 64, 1, api.OK)
	checkSplit(t, g, 2, 128, 3, api.OK) // open: 1, 3, 4
	for _, n := range []int{math.MinInt, -1, 5, 16, math.MaxInt} {
		for _, other := range []int{0, 1, 2, n} { // closed, open, closed, none
			refuseMerge(t, g, n, other, api.ErrShard)
			refuseMerge(t, g, other, n, api.ErrShard)
		}
	}
	for other := range 5 {
		refuseMerge(t, g, 0, other, api.ErrClosed)
		refuseMerge(t, g, other, 0, api.ErrClosed)
		refuseMerge(t, g, 2, other, api.ErrClosed) // 1 and 2 do meet
		refuseMerge(t, g, other, 2, api.ErrClosed)
	}
	for _, c := range [][2]int{{1, 1}, {3, 3}, {3, 1}, {4, 3}, {1, 4}, {4, 1}} {
		refuseMerge(t, g, c[0], c[1], api.ErrRange)
	}
}

func TestMergeOfDifferentParents(t *testing.T) { // P6, P7
	g := newGroup(t)
	checkSplit(t, g, 0, 64, 1, api.OK)
	checkSplit(t, g, 2, 128, 3, api.OK)
	checkPut(t, g, "a", 3, 0)
	checkMerge(t, g, 1, 3, 5, api.OK)
	checkPut(t, g, "a", 5, 0)
	checkMerge(t, g, 5, 4, 6, api.OK)
	checkPut(t, g, "a", 6, 0)
	checkPut(t, g, "zz", 6, 1)
	checkSplit(t, g, 6, 64, 7, api.OK)
	checkMerge(t, g, 7, 8, 9, api.OK)
	checkShards(t, g,
		shard(0, 256, false, 0), shard(0, 64, false, 0, 0), shard(64, 256, false, 0, 0), shard(64, 128, false, 1, 2), shard(128, 256, false, 0, 2),
		shard(0, 128, false, 1, 1, 3), shard(0, 256, false, 2, 5, 4), shard(0, 64, false, 0, 6), shard(64, 256, false, 0, 6), shard(0, 256, true, 0, 7, 8))
}

// fifteen makes a group of 15 shards: open are 1, 3, .. 13, of one hash each, and 14, of the hashes from 7 on.
func fifteen(t *testing.T) *shardflow.Group {
	t.Helper()
	g := newGroup(t)
	for at := 1; at <= 7; at++ {
		checkSplit(t, g, 2*at-2, at, 2*at-1, api.OK)
	}
	return g
}

func TestMaxShards(t *testing.T) { // P1, P5, P6
	g := fifteen(t)
	refuseSplit(t, g, 14, 100, api.ErrFull) // there would be 17
	refuseSplit(t, g, 15, 100, api.ErrShard)
	refuseSplit(t, g, 12, 100, api.ErrClosed)
	refuseSplit(t, g, 14, 7, api.ErrRange)
	checkMerge(t, g, 1, 3, 15, api.OK) // there are 16 now
	refuseMerge(t, g, 15, 5, api.ErrFull)
	refuseMerge(t, g, 5, 15, api.ErrRange)
	refuseMerge(t, g, 3, 5, api.ErrClosed)
	refuseMerge(t, g, 16, 5, api.ErrShard)
	refuseSplit(t, g, 15, 1, api.ErrFull)
	refuseSplit(t, g, 15, 2, api.ErrRange)
	checkPut(t, g, "a", 14, 0)
	checkPut(t, g, "zzzzzzzz", 15, 0)
}

func TestSplitToSixteen(t *testing.T) { // P5: just MaxShards
	g := newGroup(t)
	checkSplit(t, g, 0, 128, 1, api.OK)
	checkMerge(t, g, 1, 2, 3, api.OK) // 4 shards
	last := 3
	for at := 1; at <= 6; at++ {
		checkSplit(t, g, last, at, 2*at+2, api.OK)
		last = 2*at + 3
	}
	if n := len(g.Shards()); n != 16 {
		t.Fatalf("there are %d shards, want 16", n)
	}
	refuseSplit(t, g, last, 100, api.ErrFull)
	refuseMerge(t, g, last-1, last, api.ErrFull)
}
