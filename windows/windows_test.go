package windows

import (
	"math"
	"slices"
	"testing"

	"shardflow/api"
)

func of(width int, slide int) api.Config {
	return api.Config{Workers: 1, Lease: 1, Batch: 1, Width: width, Slide: slide}
}

func TestBegins(t *testing.T) { // A window, P17
	for _, x := range []struct {
		slide, start int
		want         bool
	}{
		{1, 0, true}, {1, 1, true}, {1, math.MaxInt, true}, {1, -1, false}, {1, math.MinInt, false},
		{5, 0, true}, {5, 5, true}, {5, 1000000, true}, {5, 4, false}, {5, 6, false}, {5, -5, false}, {5, -3, false},
		{100, 100, true}, {100, 99, false}, {100, 50, false}, {100, -100, false},
		{2, math.MinInt, false}, {2, math.MaxInt, false}, {2, math.MaxInt - 1, true},
		{0, 0, false}, {-5, 5, false}, // no configuration
	} {
		if got := Begins(of(100, x.slide), x.start); got != x.want {
			t.Errorf("Begins at %d with Slide %d = %t", x.start, x.slide, got)
		}
	}
}

func TestHolds(t *testing.T) { // A window
	for _, x := range []struct {
		width, start, time int
		want               bool
	}{
		{10, 0, 0, true}, {10, 0, 9, true}, {10, 0, 10, false},
		{10, 5, 4, false}, {10, 5, 5, true}, {10, 5, 14, true}, {10, 5, 15, false},
		{1, 7, 7, true}, {1, 7, 8, false}, {1, 7, 6, false},
		{100, 1000000, 1000000, true}, {100, 1000000, 999999, false},
		{100, math.MaxInt, 0, false}, {100, math.MinInt, 0, false}, {100, -1, 0, false},
		{100, 0, -1, false}, {100, math.MaxInt, math.MinInt, false}, {100, math.MinInt, math.MaxInt, false},
	} {
		if got := Holds(of(x.width, 1), x.start, x.time); got != x.want {
			t.Errorf("a window from %d of the width %d holds %d: %t", x.start, x.width, x.time, got)
		}
	}
}

func checkStarts(t *testing.T, c api.Config, times []int, want ...int) {
	t.Helper()
	if got := Starts(c, times); !slices.Equal(got, want) {
		t.Fatalf("Starts(%d, %d, %v) = %v, want %v", c.Width, c.Slide, times, got, want)
	}
}

func TestStartsOfOneTime(t *testing.T) { // A window, example 10
	checkStarts(t, of(100, 25), []int{60}, 0, 25, 50)
	checkStarts(t, of(100, 25), []int{80}, 0, 25, 50, 75)
	checkStarts(t, of(100, 25), []int{99}, 0, 25, 50, 75)
	checkStarts(t, of(100, 25), []int{100}, 25, 50, 75, 100)
	checkStarts(t, of(100, 25), []int{0}, 0)
	checkStarts(t, of(10, 5), []int{12}, 5, 10)
	checkStarts(t, of(10, 5), []int{3}, 0)
	checkStarts(t, of(1, 1), []int{1000000}, 1000000)
	checkStarts(t, of(4, 1), []int{1000000}, 999997, 999998, 999999, 1000000)
	checkStarts(t, of(100, 100), []int{199}, 100)
	checkStarts(t, of(7, 3), []int{6}, 0, 3, 6)
	checkStarts(t, of(7, 3), []int{7}, 3, 6)
	checkStarts(t, of(7, 3), []int{9}, 3, 6, 9)
}

func TestStartsOfSeveralTimes(t *testing.T) { // P17: each once, in rising order
	c := of(10, 5)
	checkStarts(t, c, nil)
	checkStarts(t, c, []int{12, 12, 12}, 5, 10)
	checkStarts(t, c, []int{90, 3, 50}, 0, 45, 50, 85, 90)
	checkStarts(t, c, []int{3, 50, 90}, 0, 45, 50, 85, 90)
	checkStarts(t, c, []int{50, 90, 3}, 0, 45, 50, 85, 90)
	checkStarts(t, c, []int{12, 17, 7}, 0, 5, 10, 15)
}

func TestStartsOfWrongInputs(t *testing.T) { // P1
	checkStarts(t, of(10, 0), []int{5})
	checkStarts(t, of(10, -5), []int{5})
	checkStarts(t, of(10, 5), []int{-1, -5, math.MinInt})
}

// TestStartsAreThoseThatHold: against the words, one start behind the other.
func TestStartsAreThoseThatHold(t *testing.T) { // A window
	for width := 1; width <= 20; width++ {
		for slide := 1; slide <= width; slide++ {
			if width > 4*slide {
				continue
			}
			for time := range 50 {
				want := []int{}
				for start := 0; start <= time; start += slide {
					if time < start+width {
						want = append(want, start)
					}
				}
				checkStarts(t, of(width, slide), []int{time}, want...)
				if len(want) > 4 {
					t.Fatalf("%d windows of %d, %d hold %d", len(want), width, slide, time)
				}
			}
		}
	}
}

func TestStartsLeaveTheTimesAlone(t *testing.T) {
	times := []int{90, 3, 50}
	first := Starts(of(10, 5), times)
	first[0] = -9
	checkStarts(t, of(10, 5), times, 0, 45, 50, 85, 90)
	if !slices.Equal(times, []int{90, 3, 50}) {
		t.Errorf("the times are %v", times)
	}
}
