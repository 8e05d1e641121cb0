// Package windows has the windows of time, and what is folded into one of them.
package windows

import "shardflow/api"

// Begins tells whether a window begins at start.
func Begins(c api.Config, start int) bool {
	return start >= 0 && c.Slide > 0 && start%c.Slide == 0
}

// Holds tells whether the window that begins at start holds a time.
func Holds(c api.Config, start int, time int) bool {
	// Where start is from 0 to time, the difference is not too great for an int.
	return 0 <= start && start <= time && time-start < c.Width
}

// Starts lists where the windows begin that hold some of the times, each once, in rising order, in a list that is the caller's.
func Starts(c api.Config, times []int) []int {
	all := set{}
	for i := 0; i < len(times); i++ {
		all.addOf(c, times[i])
	}
	return all.starts
}

// set has starts, each once, in rising order.
type set struct {
	starts []int
}

// addOf adds where the windows begin that hold a time.
func (s *set) addOf(c api.Config, time int) {
	if c.Slide < 1 {
		return
	}
	last := time - time%c.Slide
	for start := last; Holds(c, start, time); start -= c.Slide {
		s.add(start)
	}
}

func (s *set) add(start int) {
	place := len(s.starts)
	for place > 0 && s.starts[place-1] > start {
		place--
	}
	if place > 0 && s.starts[place-1] == start {
		return
	}
	s.starts = append(s.starts, start)
	for i := len(s.starts) - 1; i > place; i-- {
		s.starts[i] = s.starts[i-1]
	}
	s.starts[place] = start
}
