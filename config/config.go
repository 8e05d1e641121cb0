// Package config tells which configurations there are.
package config

import "shardflow/api"

// Valid tells whether c is a configuration.
func Valid(c api.Config) bool {
	workers := within(c.Workers, 1, api.MaxWorkers)
	lease := within(c.Lease, 1, api.MaxLease)
	batch := within(c.Batch, 1, api.MaxBatch)
	late := within(c.Late, 0, api.MaxLate)
	windows := validWindows(c.Width, c.Slide)
	return workers && lease && batch && late && windows
}

func validWindows(width int, slide int) bool {
	wide := within(width, 1, api.MaxWidth)
	sliding := within(slide, 1, width)
	// Both bounds are tested first: four times any int could overflow.
	return wide && sliding && width <= 4*slide
}

func within(n int, least int, greatest int) bool {
	return least <= n && n <= greatest
}
