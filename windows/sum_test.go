package windows

import (
	"testing"

	"shardflow/api"
)

func checkSum(t *testing.T, values []int, want api.Sum) {
	t.Helper()
	got := api.Sum{}
	for _, v := range values {
		got = Add(got, v, false)
	}
	if got != want {
		t.Errorf("%v make %+v, want %+v", values, got, want)
	}
}

func TestAdd(t *testing.T) { // What is folded
	checkSum(t, nil, api.Sum{})
	checkSum(t, []int{0}, api.Sum{Count: 1})
	checkSum(t, []int{7}, api.Sum{Count: 1, Sum: 7, Min: 7, Max: 7, First: 7, Last: 7})
	checkSum(t, []int{-7}, api.Sum{Count: 1, Sum: -7, Min: -7, Max: -7, First: -7, Last: -7})
	checkSum(t, []int{5, 9, 2, 4}, api.Sum{Count: 4, Sum: 20, Min: 2, Max: 9, First: 5, Last: 4})
	checkSum(t, []int{-5, -2, -9}, api.Sum{Count: 3, Sum: -16, Min: -9, Max: -2, First: -5, Last: -9})
	checkSum(t, []int{0, 0, 3}, api.Sum{Count: 3, Sum: 3, Max: 3, Last: 3})
}

func TestAddCountsTheLate(t *testing.T) { // What is folded
	s := Add(api.Sum{}, 4, true)
	s = Add(s, 6, false)
	s = Add(s, 5, true)
	want := api.Sum{Count: 3, Sum: 15, Min: 4, Max: 6, First: 4, Last: 5, Late: 2}
	if s != want {
		t.Errorf("the sum is %+v, want %+v", s, want)
	}
}

func TestASumThatIsTooGreat(t *testing.T) { // What is folded, example 9
	checkSum(t, []int{1000000}, api.Sum{Count: 1, Sum: 1000000, Min: 1000000, Max: 1000000, First: 1000000, Last: 1000000})
	checkSum(t, []int{-1000000}, api.Sum{Count: 1, Sum: -1000000, Min: -1000000, Max: -1000000, First: -1000000, Last: -1000000})
	checkSum(t, []int{1000000, 0}, api.Sum{Count: 2, Sum: 1000000, Max: 1000000, First: 1000000})
	checkSum(t, []int{1000000, 1}, api.Sum{Count: 2, Min: 1, Max: 1000000, First: 1000000, Last: 1, Over: true})
	checkSum(t, []int{-1000000, -1}, api.Sum{Count: 2, Min: -1000000, Max: -1, First: -1000000, Last: -1, Over: true})
	checkSum(t, []int{900000, 200000, -500000}, api.Sum{Count: 3, Min: -500000, Max: 900000, First: 900000, Last: -500000, Over: true})
	checkSum(t, []int{-900000, -200000, 500000}, api.Sum{Count: 3, Min: -900000, Max: 500000, First: -900000, Last: 500000, Over: true})
	checkSum(t, []int{900000, -500000, 200000}, api.Sum{Count: 3, Sum: 600000, Min: -500000, Max: 900000, First: 900000, Last: 200000})
	checkSum(t, []int{600000, 600000, 5, 6}, api.Sum{Count: 4, Min: 5, Max: 600000, First: 600000, Last: 6, Over: true}) // 0 for good
}

func TestTheLateAreCountedWhereTheSumIsOver(t *testing.T) { // What is folded
	s := api.Sum{}
	for _, v := range []int{1000000, 1000000, -3} {
		s = Add(s, v, true)
	}
	want := api.Sum{Count: 3, Min: -3, Max: 1000000, First: 1000000, Last: -3, Late: 3, Over: true}
	if s != want {
		t.Errorf("the sum is %+v, want %+v", s, want)
	}
}
