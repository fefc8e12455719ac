package octet_test

import (
	"bytes"
	"testing"

	"ford/octet"
)

// P1.1: so many of the lowest bytes, the highest of these first.
func TestPut(t *testing.T) {
	const n = 0x0102030405060708
	for _, c := range []struct {
		n    uint64
		many int
		want []byte
	}{
		{258, 2, []byte{1, 2}},
		{258, 1, []byte{2}},
		{0, 1, []byte{0}},
		{0, 8, make([]byte, 8)},
		{255, 3, []byte{0, 0, 255}},
		{n, 1, []byte{8}},
		{n, 2, []byte{7, 8}},
		{n, 3, []byte{6, 7, 8}},
		{n, 4, []byte{5, 6, 7, 8}},
		{n, 5, []byte{4, 5, 6, 7, 8}},
		{n, 6, []byte{3, 4, 5, 6, 7, 8}},
		{n, 7, []byte{2, 3, 4, 5, 6, 7, 8}},
		{n, 8, []byte{1, 2, 3, 4, 5, 6, 7, 8}},
		{1<<64 - 1, 8, bytes.Repeat([]byte{255}, 8)},
	} {
		if got := octet.Put(c.n, c.many); !bytes.Equal(got, c.want) {
			t.Errorf("Put(%#x, %d) is %v, not %v", c.n, c.many, got, c.want)
		}
	}
}

// P1.1: of any other many none.
func TestPutNone(t *testing.T) {
	for _, many := range []int{0, -1, 9, 10, 64, 1 << 62, -1 << 63} {
		if got := octet.Put(1<<64-1, many); len(got) != 0 {
			t.Errorf("Put of %d bytes is %v", many, got)
		}
	}
}

// R5: each answer is memory of its own.
func TestPutOwn(t *testing.T) {
	a := octet.Put(258, 2)
	a[0] = 99
	if b := octet.Put(258, 2); !bytes.Equal(b, []byte{1, 2}) {
		t.Error(b)
	}
}

// state holds a reader against what it must tell.
func state(t *testing.T, r *octet.Reader, left int, short bool) {
	t.Helper()
	if r.Left() != left || r.Short() != short {
		t.Errorf("%d left, short %v; not %d, %v", r.Left(), r.Short(), left, short)
	}
}

// take takes a number that must be want.
func take(t *testing.T, r *octet.Reader, many int, want uint64) {
	t.Helper()
	if got := r.Take(many); got != want {
		t.Errorf("Take(%d) is %#x, not %#x", many, got, want)
	}
}

// P1.2: numbers are read one behind the other.
func TestTake(t *testing.T) {
	r := octet.New([]byte{1, 2, 3, 4, 5, 6, 7, 8, 9, 10, 255, 254, 253})
	state(t, r, 13, false)
	take(t, r, 8, 0x0102030405060708)
	state(t, r, 5, false)
	take(t, r, 2, 0x090a)
	take(t, r, 3, 0xfffefd)
	state(t, r, 0, false)
}

// P1.2: a many that can't be reads nothing, and makes nothing short.
func TestTakeWrong(t *testing.T) {
	r := octet.New([]byte{7, 8, 9})
	for _, many := range []int{0, -1, 9, 1 << 40, -1 << 63} {
		take(t, r, many, 0)
		state(t, r, 3, false)
	}
	take(t, r, 3, 0x070809)
	take(t, r, 0, 0)
	state(t, r, 0, false)
}

// P1.2: with too few bytes nothing is left, and it is short from then on.
func TestTakeShort(t *testing.T) {
	r := octet.New([]byte{7, 8, 9})
	take(t, r, 4, 0)
	state(t, r, 0, true)
	take(t, r, 1, 0)
	take(t, r, 9, 0)
	state(t, r, 0, true)

	r = octet.New([]byte{7})
	take(t, r, 1, 7)
	state(t, r, 0, false)
	take(t, r, 1, 0)
	state(t, r, 0, true)
}

// P1.2, R4: no bytes, nil or not, are no bytes.
func TestTakeNone(t *testing.T) {
	for _, b := range [][]byte{nil, {}} {
		r := octet.New(b)
		state(t, r, 0, false)
		take(t, r, 8, 0)
		state(t, r, 0, true)
	}
}

// R5: what is handed in is neither changed nor kept.
func TestNewOwn(t *testing.T) {
	b := []byte{1, 2, 3}
	r := octet.New(b)
	b[0] = 9
	take(t, r, 2, 258)
	if !bytes.Equal(b, []byte{9, 2, 3}) {
		t.Error(b)
	}
	other := octet.New(b)
	take(t, other, 1, 9)
	state(t, r, 1, false)
}

// P1.3: what is put is taken.
func TestPutTake(t *testing.T) {
	n := uint64(1)
	for range 500 {
		n = n*6364136223846793005 + 1442695040888963407
		var b []byte
		for many := 1; many <= 8; many++ {
			b = append(b, octet.Put(n, many)...)
		}
		r := octet.New(b)
		for many := 1; many <= 8; many++ {
			take(t, r, many, n<<(64-8*many)>>(64-8*many))
		}
		state(t, r, 0, false)
	}
}
