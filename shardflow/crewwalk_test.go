package shardflow_test

import (
	"testing"

	"shardflow/api"
)

func (d *dice) config() api.Config {
	slide := 1 + d.below(30)
	width := slide + d.below(min(4*slide, 100)-slide+1)
	return api.Config{Workers: 1 + d.below(4), Lease: 1 + d.below(5), Batch: 1 + d.below(8), Width: width, Slide: slide, Late: d.below(40)}
}

func TestCrewWalks(t *testing.T) { // P9 to P17
	for seed := range 200 {
		d := &dice{state: uint64(seed)}
		config := d.config()
		g, c := groupWith(t, config), newCrew(config)
		for range 300 {
			c.step(t, g, d)
			checkSeen(t, g, c.seen())
		}
	}
}
