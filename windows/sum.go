package windows

import "shardflow/api"

// Add folds one more value into a sum.
func Add(s api.Sum, value int, late bool) api.Sum {
	if s.Count == 0 {
		s.First = value
	}
	if s.Count == 0 || value < s.Min {
		s.Min = value
	}
	if s.Count == 0 || value > s.Max {
		s.Max = value
	}
	s.Count++
	s.Last = value
	if late {
		s.Late++
	}
	return addValue(s, value)
}

// addValue leaves a sum alone that was once too great: it is 0 for good, also if later values would bring it back.
func addValue(s api.Sum, value int) api.Sum {
	if s.Over {
		return s
	}
	s.Sum += value
	if s.Sum > api.MaxSum || s.Sum < -api.MaxSum {
		s.Over = true
		s.Sum = 0
	}
	return s
}
