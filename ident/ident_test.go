package ident_test

import (
	"testing"

	"ford/ident"
)

const lower48 = 1<<48 - 1

// P2.1: a bridge's number is its first part, and behind it 48 bits of the address.
func TestBridge(t *testing.T) {
	for _, c := range []struct {
		prio uint16
		addr uint64
		want uint64
	}{
		{32768, 5, 9223372036854775813},
		{0, 0, 0},
		{1, 0, 1 << 48},
		{0, lower48, lower48},
		{0, 1 << 48, 0},
		{0x1234, 0xabcd_56789abcdef0, 0x1234_56789abcdef0},
		{0xffff, 1<<64 - 1, 1<<64 - 1},
	} {
		if got := ident.Bridge(c.prio, c.addr); got != c.want {
			t.Errorf("Bridge(%#x, %#x) is %#x, not %#x", c.prio, c.addr, got, c.want)
		}
	}
}

// P2.1: Prio tells the upper 16 bits, Addr the lower 48 ones.
func TestPrioAddr(t *testing.T) {
	for _, c := range []struct {
		id   uint64
		prio uint16
		addr uint64
	}{
		{0, 0, 0},
		{9223372036854775813, 32768, 5},
		{0x1234_56789abcdef0, 0x1234, 0x56789abcdef0},
		{lower48, 0, lower48},
		{1 << 48, 1, 0},
		{1<<64 - 1, 0xffff, lower48},
	} {
		if got := ident.Prio(c.id); got != c.prio {
			t.Errorf("Prio(%#x) is %#x, not %#x", c.id, got, c.prio)
		}
		if got := ident.Addr(c.id); got != c.addr {
			t.Errorf("Addr(%#x) is %#x, not %#x", c.id, got, c.addr)
		}
	}
}

// P2.2: a port's number is four bits of prio, and behind them twelve of num.
func TestPort(t *testing.T) {
	for _, c := range []struct {
		prio uint8
		num  uint16
		want uint16
	}{
		{128, 3, 32771},
		{0, 0, 0},
		{0x0f, 0, 0},
		{0x10, 0, 0x1000},
		{0xff, 0xffff, 0xffff},
		{0xab, 0xcdef, 0xadef},
		{0, 0xf000, 0},
		{0, 0x0fff, 0x0fff},
	} {
		if got := ident.Port(c.prio, c.num); got != c.want {
			t.Errorf("Port(%#x, %#x) is %#x, not %#x", c.prio, c.num, got, c.want)
		}
	}
}

// P2.2: Num tells the lower twelve bits.
func TestNum(t *testing.T) {
	for _, c := range []struct{ id, want uint16 }{{0, 0}, {32771, 3}, {0x0fff, 0x0fff}, {0x1000, 0}, {0xffff, 0x0fff}, {0xabcd, 0xbcd}} {
		if got := ident.Num(c.id); got != c.want {
			t.Errorf("Num(%#x) is %#x, not %#x", c.id, got, c.want)
		}
	}
}

// P2.2: an address is of many, if the lowest bit of its first byte is 1; no other bit plays a part.
func TestGroup(t *testing.T) {
	for _, c := range []struct {
		mac  uint64
		want bool
	}{
		{0, false},
		{0x0180c2000000, true},
		{0xffffffffffff, true},
		{0x010000000000, true},
		{0xfeffffffffff, false},
		{0x020000000000, false},
		{0x008000000000, false},
		{1, false},
		{1 << 48, false},
		{0xffff_feffffffffff, false},
		{0xabcd_010000000000, true},
	} {
		if got := ident.Group(c.mac); got != c.want {
			t.Errorf("Group(%#x) is %v", c.mac, got)
		}
	}
}

// P2.3: a number is its parts, and the lower first part makes the lower number.
func TestParts(t *testing.T) {
	n := uint64(5)
	next := func() uint64 {
		n = n*6364136223846793005 + 1442695040888963407
		return n ^ n>>32
	}
	for range 1000 {
		id, num := next(), uint16(next())
		if got := ident.Bridge(ident.Prio(id), ident.Addr(id)); got != id {
			t.Errorf("%#x is not its parts: %#x", id, got)
		}
		if got := ident.Port(uint8(num>>8), ident.Num(num)); got != num {
			t.Errorf("%#x is not its parts: %#x", num, got)
		}
		low := uint16(next() % 0xffff)
		if ident.Bridge(low, next()) >= ident.Bridge(low+1, next()) {
			t.Errorf("first part %d makes no lower number than %d", low, low+1)
		}
	}
}
