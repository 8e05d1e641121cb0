package shardflow_test

import "shardflow/api"

// pool says in the document's words what the sink must be: it folds when something is committed, and keeps what it folded.
type pool struct {
	records [16][]entry
	marks   [16]api.Mark // but for the watermarks
	folded  map[place][]value
	puts    map[string][]int // all values of a key, in the order in which they were put
}

type entry struct {
	key         string
	value, time int
}

type place struct {
	key   string
	start int
}

type value struct {
	number int
	late   bool
}

func newPool() pool { return pool{folded: map[place][]value{}, puts: map[string][]int{}} }

func (p *pool) keep(shard int, r entry) {
	p.records[shard] = append(p.records[shard], r)
	p.puts[r.key] = append(p.puts[r.key], r.value)
}

func (p *pool) watermark(shards []api.Shard, n int) int {
	top := -1
	for _, r := range p.records[n][:p.marks[n].Done] {
		top = max(top, r.time)
	}
	for _, parent := range shards[n].Parents {
		top = max(top, p.watermark(shards, parent))
	}
	return top
}

func (p *pool) late(c api.Config, shards []api.Shard, n int, i int) bool {
	top := -1
	for _, r := range p.records[n][:i] {
		top = max(top, r.time)
	}
	for _, parent := range shards[n].Parents {
		top = max(top, p.watermark(shards, parent))
	}
	return p.records[n][i].time+c.Late < top
}

func (p *pool) fold(c api.Config, shards []api.Shard, n int, i int) {
	r := p.records[n][i]
	late := p.late(c, shards, n, i)
	for start := 0; start <= r.time; start += c.Slide {
		if r.time <= start+c.Width-1 {
			at := place{r.key, start}
			p.folded[at] = append(p.folded[at], value{r.value, late})
		}
	}
}

func sumOf(list []value) api.Sum {
	s := api.Sum{Count: len(list), Min: list[0].number, Max: list[0].number, First: list[0].number, Last: list[len(list)-1].number}
	for _, v := range list {
		s.Sum += v.number
		s.Over = s.Over || s.Sum > 1000000 || s.Sum < -1000000
		s.Min = min(s.Min, v.number)
		s.Max = max(s.Max, v.number)
		if v.late {
			s.Late++
		}
	}
	if s.Over {
		s.Sum = 0
	}
	return s
}

func (p *pool) totals() []total {
	list := []total{}
	for _, key := range someKeys() {
		for start := 0; start <= maxEntryTime; start++ {
			if values := p.folded[place{key, start}]; len(values) > 0 {
				list = append(list, total{key, start, sumOf(values)})
			}
		}
	}
	return list
}

// maxEntryTime keeps the walks among few windows, so that records meet: the greatest window, from 0 on, holds all of them.
const maxEntryTime = 99

func (d *dice) entry() entry {
	r := entry{key: someKeys()[d.below(6)], value: d.below(21) - 10, time: d.below(maxEntryTime + 1)}
	if d.below(3) == 0 {
		r.value *= 100000
	}
	if d.below(2) == 0 {
		r.time /= 4
	}
	return r
}
