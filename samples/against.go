package samples

import (
	"strconv"

	"ford/api"
)

// Fault is where a machine doesn't do what its rows say: why; the bridge and the port's place ahead of the step; the bridge behind it, and as it should be.
type Fault struct {
	Why             string
	Ahead, Is, Want api.Bridge
	Port            int
}

// Against holds a machine's step against its rows, on so many bridges. Rows does what a step should do, and tells by which row, from 1 on, or 0, where none holds. Each of the rows must be met. The first fault, and whether there is one.
func Against(step func(*api.Bridge, int) bool, rows func(*api.Bridge, int) int, last, many int) (Fault, bool) {
	d, met := New(uint64(last)), make([]int, last+1)
	for range many {
		ahead := Bridge(d)
		i := d.Upto(len(ahead.Ports))
		is, want := Copy(ahead), Copy(ahead)
		did, row := step(&is, i), rows(&want, i)
		if did != (row > 0) || !Same(is, want) {
			return Fault{Why: "row " + strconv.Itoa(row), Ahead: ahead, Is: is, Want: want, Port: i}, true
		}
		met[row]++
	}
	for row, n := range met {
		if n < 5 {
			return Fault{Why: "row " + strconv.Itoa(row) + " is hardly met"}, true
		}
	}
	return Fault{}, false
}
