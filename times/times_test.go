package times_test

import (
	"math"
	"testing"

	"ford/api"
	"ford/times"
)

// P4.1: each time within its ends, and Max fitting the others.
func TestRight(t *testing.T) {
	for _, c := range []struct {
		name string
		t    api.Times
		want bool
	}{
		{"ordinary", api.Times{Age: 0, Max: 20, Hello: 2, Delay: 15}, true},
		{"zero", api.Times{}, false},
		{"least age", api.Times{Age: -1, Max: 20, Hello: 2, Delay: 15}, false},
		{"greatest age", api.Times{Age: 255, Max: 20, Hello: 2, Delay: 15}, true},
		{"age too great", api.Times{Age: 256, Max: 20, Hello: 2, Delay: 15}, false},
		{"least Max", api.Times{Max: 6, Hello: 1, Delay: 15}, true},
		{"Max too little", api.Times{Max: 5, Hello: 1, Delay: 15}, false},
		{"greatest Max", api.Times{Max: 40, Hello: 2, Delay: 30}, true},
		{"Max too great", api.Times{Max: 41, Hello: 2, Delay: 30}, false},
		{"least Hello", api.Times{Max: 20, Hello: 1, Delay: 15}, true},
		{"Hello too little", api.Times{Max: 20, Hello: 0, Delay: 15}, false},
		{"greatest Hello", api.Times{Max: 40, Hello: 10, Delay: 30}, true},
		{"Hello too great", api.Times{Max: 40, Hello: 11, Delay: 30}, false},
		{"least Delay", api.Times{Max: 6, Hello: 1, Delay: 4}, true},
		{"Delay too little", api.Times{Max: 6, Hello: 1, Delay: 3}, false},
		{"greatest Delay", api.Times{Max: 20, Hello: 2, Delay: 30}, true},
		{"Delay too great", api.Times{Max: 20, Hello: 2, Delay: 31}, false},
		{"Max as Delay lets it", api.Times{Max: 28, Hello: 2, Delay: 15}, true},
		{"Max above what Delay lets", api.Times{Max: 29, Hello: 2, Delay: 15}, false},
		{"Max as Hello lets it", api.Times{Max: 20, Hello: 9, Delay: 15}, true},
		{"Max below what Hello lets", api.Times{Max: 19, Hello: 9, Delay: 15}, false},
		{"Max that no Hello lets", api.Times{Max: 20, Hello: 10, Delay: 15}, false},
		{"Hello and Delay that fit no Max", api.Times{Max: 22, Hello: 10, Delay: 4}, false},
		{"Delay that wraps round", api.Times{Max: 20, Hello: 2, Delay: math.MinInt}, false},
		{"Hello that wraps round", api.Times{Max: 20, Hello: math.MaxInt, Delay: 15}, false},
		{"Hello below", api.Times{Max: 20, Hello: math.MinInt, Delay: 15}, false},
		{"Delay far above", api.Times{Max: 20, Hello: 2, Delay: math.MaxInt}, false},
		{"Max far above", api.Times{Max: math.MaxInt, Hello: 2, Delay: 15}, false},
		{"Max far below", api.Times{Max: math.MinInt, Hello: 2, Delay: 15}, false},
		{"Age far above", api.Times{Age: math.MaxInt, Max: 20, Hello: 2, Delay: 15}, false},
		{"Age far below", api.Times{Age: math.MinInt, Max: 20, Hello: 2, Delay: 15}, false},
	} {
		if got := times.Right(c.t); got != c.want {
			t.Errorf("%s: %v", c.name, got)
		}
	}
}

// P4.2: an age more, and nothing else.
func TestOlder(t *testing.T) {
	for _, age := range []int{0, 7, 254, 65535} {
		v := api.Times{Age: age, Max: 2, Hello: 3, Delay: 4}
		if got := times.Older(v); got != (api.Times{Age: age + 1, Max: 2, Hello: 3, Delay: 4}) {
			t.Error(got)
		}
	}
}

// P4.2: three hellos, if with an age more it isn't too old.
func TestWaits(t *testing.T) {
	for _, c := range []struct {
		t    api.Times
		want int
	}{
		{api.Times{Age: 19, Max: 20, Hello: 2, Delay: 15}, 6},
		{api.Times{Age: 20, Max: 20, Hello: 2, Delay: 15}, 0},
		{api.Times{Age: 21, Max: 20, Hello: 2, Delay: 15}, 0},
		{api.Times{Age: 0, Max: 1, Hello: 10}, 30},
		{api.Times{Age: 0, Max: 0, Hello: 10}, 0},
		{api.Times{Age: 0, Max: 20, Hello: 0}, 0},
		{api.Times{Age: 65534, Max: 65535, Hello: 65535}, 196605},
		{api.Times{Age: 65535, Max: 65535, Hello: 65535}, 0},
	} {
		if got := times.Waits(c.t); got != c.want {
			t.Errorf("%v: %d, not %d", c.t, got, c.want)
		}
	}
}

// P4.3: seconds in 256ths, as far as two bytes tell whole ones.
func TestTo(t *testing.T) {
	for _, c := range []struct {
		sec  int
		want uint16
	}{
		{0, 0}, {1, 256}, {20, 5120}, {254, 65024}, {255, 65280}, {256, 65280}, {1 << 40, 65280}, {math.MaxInt, 65280}, {-1, 0}, {-256, 0}, {math.MinInt, 0},
	} {
		if got := times.To(c.sec); got != c.want {
			t.Errorf("To(%d) is %d, not %d", c.sec, got, c.want)
		}
	}
}

// P4.3: 256ths to the nearest second, a half rounded up.
func TestFrom(t *testing.T) {
	for _, c := range []struct {
		x    uint16
		want int
	}{
		{0, 0}, {127, 0}, {128, 1}, {255, 1}, {256, 1}, {383, 1}, {384, 2}, {5120, 20}, {5247, 20}, {5248, 21}, {65407, 255}, {65408, 256}, {65535, 256},
	} {
		if got := times.From(c.x); got != c.want {
			t.Errorf("From(%d) is %d, not %d", c.x, got, c.want)
		}
	}
}

// P4.4: what is told in 256ths is told back.
func TestToFrom(t *testing.T) {
	for sec := range 256 {
		if got := times.From(times.To(sec)); got != sec {
			t.Errorf("%d is told back as %d", sec, got)
		}
	}
}
