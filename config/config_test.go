package config

import (
	"math"
	"testing"

	"shardflow/api"
)

func TestEachBound(t *testing.T) { // P3
	plain := api.Config{Workers: 2, Lease: 3, Batch: 2, Width: 10, Slide: 5, Late: 0}
	fields := []struct {
		name            string
		set             func(c *api.Config, n int)
		least, greatest int
	}{
		{"Workers", func(c *api.Config, n int) { c.Workers = n }, 1, 4},
		{"Lease", func(c *api.Config, n int) { c.Lease = n }, 1, 10},
		{"Batch", func(c *api.Config, n int) { c.Batch = n }, 1, 8},
		{"Width", func(c *api.Config, n int) { c.Width = n; c.Slide = n }, 1, 100},
		{"Slide", func(c *api.Config, n int) { c.Slide = n }, 3, 10},
		{"Late", func(c *api.Config, n int) { c.Late = n }, 0, 100},
	}
	for _, f := range fields {
		for n := -5; n <= 205; n++ {
			c := plain
			f.set(&c, n)
			if got, want := Valid(c), f.least <= n && n <= f.greatest; got != want {
				t.Errorf("%s %d: Valid = %v, want %v", f.name, n, got, want)
			}
		}
		for _, n := range []int{math.MinInt, math.MinInt + 1, math.MinInt / 4, math.MaxInt / 4, math.MaxInt/4 + 1, math.MaxInt - 1, math.MaxInt} {
			c := plain
			f.set(&c, n)
			if Valid(c) {
				t.Errorf("%s %d: Valid = true", f.name, n)
			}
		}
	}
}

func TestWidthAndSlide(t *testing.T) { // P3
	for width := -2; width <= 102; width++ {
		for slide := -2; slide <= 102; slide++ {
			c := api.Config{Workers: 1, Lease: 1, Batch: 1, Width: width, Slide: slide}
			want := width >= 1 && width <= 100 && slide >= 1 && slide <= width && width <= 4*slide
			if got := Valid(c); got != want {
				t.Errorf("Width %d, Slide %d: Valid = %v, want %v", width, slide, got, want)
			}
		}
	}
	// 4 times this Slide wraps round to a small number.
	if Valid(api.Config{Workers: 1, Lease: 1, Batch: 1, Width: math.MaxInt, Slide: 1<<61 + 1}) {
		t.Error("a Width that is too great is taken")
	}
}
