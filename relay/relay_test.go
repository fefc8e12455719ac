package relay_test

import (
	"math"
	"slices"
	"testing"

	"ford/api"
	"ford/fdb"
	"ford/relay"
	"ford/samples"
)

// P19.1: sixteen addresses go no further.
func TestReserved(t *testing.T) {
	for _, c := range []struct {
		dst  uint64
		want bool
	}{
		{0x0180c2000000, true},
		{0x0180c2000001, true},
		{0x0180c200000f, true},
		{0xabcd_0180c2000000, true},
		{0x0180c2000010, false},
		{0x0180c1ffffff, false},
		{0x0180c2000100, false},
		{0x0080c2000000, false},
		{0, false},
		{math.MaxUint64, false},
	} {
		if got := relay.Reserved(c.dst); got != c.want {
			t.Errorf("%#x: %v", c.dst, got)
		}
	}
}

// ports is a bridge of ports: Enabled, Learning and Forwarding where a letter e, l, f says so.
func ports(l ...string) api.Bridge {
	b := api.Bridge{ID: 5, Rst: true, Times: api.Times{Max: 20, Hello: 2, Delay: 15}, Hold: 6, RootPort: -1}
	for _, s := range l {
		has := func(r rune) bool { return slices.Contains([]rune(s), r) }
		b.Ports = append(b.Ports, api.Port{Enabled: has('e'), Flags: api.Flags{Learning: has('l'), Forwarding: has('f')}})
	}
	return b
}

// station is the station from which frames come here.
const station = 0x70

// P19.2: where frames go, and what is learned on the way.
func TestOut(t *testing.T) {
	open := ports("elf", "elf", "elf")
	for _, c := range []struct {
		name    string
		b       api.Bridge
		in      int
		dst     uint64
		want    []int
		learned bool
	}{
		{"the example", open, 1, 0x99, []int{0, 2}, true},
		{"to all", open, 0, 0xffffffffffff, []int{1, 2}, true},
		{"to many", open, 2, 0x010000000005, []int{0, 1}, true},
		{"known", open, 0, 0x1, []int{1}, true},
		{"known, in 48 bits", open, 0, 0x1 | 7<<48, []int{1}, true},
		{"known where it came from", open, 1, 0x1, nil, true},
		{"to itself", open, 1, station, nil, true},
		{"known at no port", open, 0, 0x9, nil, true},
		{"known at a port that is down", ports("elf", "lf", "elf"), 0, 0x1, nil, true},
		{"known at a port that doesn't forward", ports("elf", "el", "elf"), 0, 0x1, nil, true},
		{"some down, some not forwarding", ports("elf", "lf", "el", "elf", "ef"), 3, 0x99, []int{0, 4}, true},
		{"in, down", ports("lf", "elf"), 0, 0x99, nil, false},
		{"in, learning alone", ports("el", "elf"), 0, 0x99, nil, true},
		{"in, forwarding alone", ports("ef", "elf"), 0, 0x99, []int{1}, false},
		{"in, neither", ports("e", "elf"), 0, 0x99, nil, false},
		{"reserved", open, 0, 0x0180c200000e, nil, false},
		{"reserved, in 48 bits", open, 0, 0xffff_0180c2000000, nil, false},
		{"just not reserved", open, 0, 0x0180c2000010, []int{1, 2}, true},
		{"no port 3", open, 3, 0x99, nil, false},
		{"no port -1", open, -1, 0x99, nil, false},
		{"far above", open, math.MaxInt, 0x99, nil, false},
		{"far below", open, math.MinInt, 0x99, nil, false},
		{"no ports", ports(), 0, 0x99, nil, false},
	} {
		f := fdb.New(9, 300)
		f.Learn(0x1, 1)
		f.Learn(0x9, 9)
		ahead := samples.Copy(c.b)
		if got := relay.Out(c.b, f, c.in, station, c.dst); !slices.Equal(got, c.want) {
			t.Errorf("%s: %v, not %v", c.name, got, c.want)
		}
		at, learned := f.Find(station)
		if learned != c.learned || learned && at != c.in {
			t.Errorf("%s: learned %v, at %d", c.name, learned, at)
		}
		if !samples.Same(c.b, ahead) {
			t.Errorf("%s: changed", c.name)
		}
	}
}

// P19.2: it is learned first, where the source is, and looked up then.
func TestLearnFirst(t *testing.T) {
	b, f := ports("elf", "elf", "elf"), fdb.New(1, 300)
	f.Learn(2, 2)
	if got := relay.Out(b, f, 0, 1, 2); !slices.Equal(got, []int{1, 2}) {
		t.Error("who went from a full database is known yet:", got)
	}
	if got := relay.Out(b, f, 1, 1, 1); len(got) != 0 {
		t.Error("who moved is looked for where it was:", got)
	}
	// Who is no station isn't learned, and its frames go on.
	if got := relay.Out(b, f, 0, 0xffffffffffff, 9); !slices.Equal(got, []int{1, 2}) || len(f.All()) != 1 {
		t.Error(got, f.All())
	}
}

// entry is a station, behind a port, for some seconds.
func entry(mac uint64, port, sec int) fdb.Entry { return fdb.Entry{Mac: mac, Port: port, Sec: sec} }

// P19.3: what is to be forgotten: at once by an Rst bridge, else after Delay; then nothing is.
func TestFlush(t *testing.T) {
	for _, rst := range []bool{true, false} {
		b, f := ports("elf", "elf", "elf"), fdb.New(9, 300)
		b.Rst, b.Flushed = rst, []int{2, 0, 7, -1, 2}
		held := b.Flushed
		for i := range 6 {
			f.Learn(uint64(i+1), i%3)
		}
		relay.Flush(&b, f)
		want := []fdb.Entry{entry(2, 1, 300), entry(5, 1, 300)}
		if !rst {
			want = []fdb.Entry{entry(1, 0, 15), entry(2, 1, 300), entry(3, 2, 15), entry(4, 0, 15), entry(5, 1, 300), entry(6, 2, 15)}
		}
		if got := f.All(); !slices.Equal(got, want) || len(b.Flushed) != 0 {
			t.Errorf("%v: %v %v", rst, got, b.Flushed)
		}
		b.Flushed = append(b.Flushed, 9)
		if held[0] != 2 {
			t.Error("a list that was handed in is changed")
		}
		b.Flushed = nil
		relay.Flush(&b, f)
		if got := f.All(); !slices.Equal(got, want) {
			t.Errorf("nothing to flush: %v", got)
		}
	}
}

// P19.4: no frame goes back, none goes through a port that doesn't forward; places rise.
func TestNeverBack(t *testing.T) {
	d := samples.New(194)
	f, sent := fdb.New(20, 300), 0
	for range 20000 {
		b := samples.Bridge(d)
		in := d.Upto(len(b.Ports)+2) - 1
		out := relay.Out(b, f, in, uint64(d.Upto(9)), uint64(d.Upto(40)))
		sent += len(out)
		if !slices.IsSorted(out) || len(slices.Compact(slices.Clone(out))) != len(out) {
			t.Fatal(out)
		}
		for _, i := range out {
			if p := b.Ports[i]; i == in || !p.Enabled || !p.Flags.Forwarding || !b.Ports[in].Flags.Forwarding || !b.Ports[in].Enabled {
				t.Fatalf("%+v from %d to %d", b, in, i)
			}
		}
	}
	if sent < 1000 {
		t.Error("hardly a frame goes on")
	}
}
