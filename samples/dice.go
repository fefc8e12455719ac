// Package samples makes bridges out of a number, for the tests of the machines: the same number makes the same bridges.
package samples

// Dice tell numbers, one behind the other; which ones hangs on where they began alone.
type Dice struct{ n uint64 }

// New are dice that begin at a number.
func New(seed uint64) *Dice { return &Dice{n: seed} }

// next is the next number, all bits of which are mixed.
func (d *Dice) next() uint64 {
	d.n += 0x9e3779b97f4a7c15
	z := d.n
	z = (z ^ z>>30) * 0xbf58476d1ce4e5b9
	z = (z ^ z>>27) * 0x94d049bb133111eb
	return z ^ z>>31
}

// Upto is a number from 0 to n - 1; 0, if there is none.
func (d *Dice) Upto(n int) int {
	if n < 1 {
		return 0
	}
	return int(d.next() % uint64(n))
}

// Flip is one of two.
func (d *Dice) Flip() bool { return d.Upto(2) == 0 }

// Once is true once in so many times.
func (d *Dice) Once(many int) bool { return d.Upto(many) == 0 }

// Among is one of some.
func (d *Dice) Among(l ...int) int {
	if len(l) == 0 {
		return 0
	}
	return l[d.Upto(len(l))]
}
