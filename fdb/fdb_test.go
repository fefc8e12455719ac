package fdb_test

import (
	"math"
	"slices"
	"testing"

	"ford/api"
	"ford/fdb"
)

// full is a database that learned stations 1 to n behind ports 0, 1, 2, 0 .., all at once.
func full(most, age, n int) *fdb.Fdb {
	f := fdb.New(most, age)
	for i := range n {
		f.Learn(uint64(i+1), i%3)
	}
	return f
}

// holds holds a database against the entries that it must have.
func holds(t *testing.T, name string, f *fdb.Fdb, want ...fdb.Entry) {
	t.Helper()
	if got := f.All(); !slices.Equal(got, want) {
		t.Errorf("%s: %v, not %v", name, got, want)
	}
}

// P7.1: which databases there are.
func TestNew(t *testing.T) {
	for _, c := range []struct {
		most, age int
		want      bool
	}{
		{1, 1, true},
		{api.MaxEntries, fdb.MaxAge, true},
		{2, 300, true},
		{0, 300, false},
		{-1, 300, false},
		{api.MaxEntries + 1, 300, false},
		{2, 0, false},
		{2, -1, false},
		{2, fdb.MaxAge + 1, false},
		{math.MinInt, math.MinInt, false},
		{math.MaxInt, math.MaxInt, false},
	} {
		f := fdb.New(c.most, c.age)
		if (f != nil) != c.want {
			t.Errorf("New(%d, %d): %v", c.most, c.age, f)
		}
		if f != nil {
			holds(t, "new", f)
		}
	}
	if fdb.MaxAge != 1000000 {
		t.Error("MaxAge")
	}
}

// P7.1: entries stand by their addresses; a change of the answer changes nothing.
func TestAll(t *testing.T) {
	f := fdb.New(9, 300)
	for _, mac := range []uint64{70, 5, 1 << 39, 9, 1 << 47} {
		f.Learn(mac, int(mac%4))
	}
	want := []fdb.Entry{{5, 1, 300}, {9, 1, 300}, {70, 2, 300}, {1 << 39, 0, 300}, {1 << 47, 0, 300}}
	holds(t, "by addresses", f, want...)
	f.All()[0].Port = 99
	holds(t, "changed answer", f, want...)
}

// P7.2: what is learned, by the lowest 48 bits.
func TestLearn(t *testing.T) {
	f := fdb.New(3, 300)
	for _, c := range []struct {
		mac  uint64
		port int
		want bool
	}{
		{0, 0, false},
		{1 << 48, 0, false},
		{0xffff << 48, 0, false},
		{0x010000000000, 0, false},
		{0xffffffffffff, 0, false},
		{0x0180c2000000, 1, false},
		{1<<48 | 0x010000000005, 1, false},
		{5, -1, false},
		{5, math.MinInt, false},
		{5, 0, true},
		{6 | 0xabcd<<48, math.MaxInt, true},
		{0xfeffffffffff, 31, true},
	} {
		if got := f.Learn(c.mac, c.port); got != c.want {
			t.Errorf("Learn(%#x, %d): %v", c.mac, c.port, got)
		}
	}
	holds(t, "learned", f, fdb.Entry{5, 0, 300}, fdb.Entry{6, math.MaxInt, 300}, fdb.Entry{0xfeffffffffff, 31, 300})
}

// P7.2: what can't be learned lets nothing go from a full database.
func TestLearnWrongFull(t *testing.T) {
	f := full(2, 10, 2)
	if f.Learn(0, 1) || f.Learn(9, -1) || f.Learn(1<<40, 1) {
		t.Error("learned")
	}
	holds(t, "full", f, fdb.Entry{1, 0, 10}, fdb.Entry{2, 1, 10})
}

// P7.2: who was there moves, and lives for age seconds anew, in a full database also.
func TestLearnAgain(t *testing.T) {
	f := full(2, 10, 2)
	f.Tick()
	if !f.Learn(1, 7) {
		t.Error("not learned")
	}
	holds(t, "moved", f, fdb.Entry{1, 7, 10}, fdb.Entry{2, 1, 9})
	f.Learn(1, 7)
	holds(t, "again", f, fdb.Entry{1, 7, 10}, fdb.Entry{2, 1, 9})
}

// P7.2: from a full database who lives shortest goes; of like ones the least address.
func TestLearnFull(t *testing.T) {
	f := fdb.New(2, 300)
	f.Learn(1, 0)
	f.Tick()
	f.Learn(2, 0)
	f.Learn(3, 5)
	holds(t, "the example", f, fdb.Entry{2, 0, 300}, fdb.Entry{3, 5, 300})

	f = fdb.New(3, 300)
	f.Learn(9, 0)
	f.Tick()
	f.Learn(4, 1)
	f.Learn(7, 2)
	f.Learn(5, 3)
	holds(t, "oldest, not least", f, fdb.Entry{4, 1, 300}, fdb.Entry{5, 3, 300}, fdb.Entry{7, 2, 300})
	f.Learn(6, 3)
	holds(t, "least of like ones", f, fdb.Entry{5, 3, 300}, fdb.Entry{6, 3, 300}, fdb.Entry{7, 2, 300})
	f.Short(2, 5)
	f.Learn(1, 0)
	holds(t, "made short", f, fdb.Entry{1, 0, 300}, fdb.Entry{5, 3, 300}, fdb.Entry{6, 3, 300})

	f = fdb.New(1, 5)
	f.Learn(1, 0)
	f.Learn(2, 1)
	holds(t, "one", f, fdb.Entry{2, 1, 5})
}

// P7.3: who is found, by the lowest 48 bits.
func TestFind(t *testing.T) {
	f := full(9, 300, 3)
	for _, c := range []struct {
		mac  uint64
		port int
		ok   bool
	}{
		{1, 0, true},
		{2, 1, true},
		{3 | 0x1234<<48, 2, true},
		{4, -1, false},
		{0, -1, false},
		{1 << 48, -1, false},
		{0xffffffffffff, -1, false},
	} {
		if port, ok := f.Find(c.mac); port != c.port || ok != c.ok {
			t.Errorf("Find(%#x): %d %v", c.mac, port, ok)
		}
	}
}

// P7.3: each second each entry lives for one less, till it goes.
func TestTick(t *testing.T) {
	f := fdb.New(9, 3)
	f.Tick()
	f.Learn(1, 0)
	f.Tick()
	f.Learn(2, 0)
	holds(t, "one second", f, fdb.Entry{1, 0, 2}, fdb.Entry{2, 0, 3})
	f.Tick()
	holds(t, "two seconds", f, fdb.Entry{1, 0, 1}, fdb.Entry{2, 0, 2})
	f.Tick()
	holds(t, "three seconds", f, fdb.Entry{2, 0, 1})
	if port, ok := f.Find(1); ok || port != -1 {
		t.Error("found who went")
	}
	f.Tick()
	f.Tick()
	holds(t, "five seconds", f)
}

// P7.4: a port's entries go, and are counted.
func TestFlush(t *testing.T) {
	f := full(9, 300, 5)
	for _, c := range []struct{ port, many int }{{-1, 0}, {3, 0}, {0, 2}, {0, 0}, {2, 1}} {
		if got := f.Flush(c.port); got != c.many {
			t.Errorf("Flush(%d) is %d", c.port, got)
		}
	}
	holds(t, "port 1's", f, fdb.Entry{2, 1, 300}, fdb.Entry{5, 1, 300})
}

// P7.4: a port's entries live for so much at most, and are counted, changed or not.
func TestShort(t *testing.T) {
	f := full(9, 300, 4)
	for range 10 {
		f.Tick()
	}
	f.Learn(5, 0)
	if got := f.Short(0, 295); got != 3 {
		t.Error(got)
	}
	holds(t, "295", f, fdb.Entry{1, 0, 290}, fdb.Entry{2, 1, 290}, fdb.Entry{3, 2, 290}, fdb.Entry{4, 0, 290}, fdb.Entry{5, 0, 295})
	if got := f.Short(0, 15); got != 3 {
		t.Error(got)
	}
	if got := f.Short(1, math.MaxInt); got != 1 {
		t.Error(got)
	}
	if got := f.Short(8, 0); got != 0 {
		t.Error(got)
	}
	holds(t, "15", f, fdb.Entry{1, 0, 15}, fdb.Entry{2, 1, 290}, fdb.Entry{3, 2, 290}, fdb.Entry{4, 0, 15}, fdb.Entry{5, 0, 15})
	if f.Short(0, 0) != 3 || f.Short(1, -1) != 1 || f.Short(2, math.MinInt) != 1 {
		t.Error("for none")
	}
	holds(t, "none", f)

	f = full(9, 300, 1)
	f.Short(0, 1)
	holds(t, "one second", f, fdb.Entry{1, 0, 1})
	f.Tick()
	holds(t, "gone", f)
}

// P7.5: a clone is like it, and goes its own way.
func TestClone(t *testing.T) {
	f := full(3, 300, 3)
	f.Tick()
	c := f.Clone()
	want := f.All()
	holds(t, "clone", c, want...)
	c.Tick()
	c.Learn(1, 9)
	c.Flush(1)
	holds(t, "clone's way", c, fdb.Entry{1, 9, 300}, fdb.Entry{3, 2, 298})
	holds(t, "not the first one's", f, want...)
	f.Flush(2)
	f.Learn(8, 8)
	f.Short(0, 1)
	holds(t, "first one's way", f, fdb.Entry{1, 0, 1}, fdb.Entry{2, 1, 299}, fdb.Entry{8, 8, 300})
	holds(t, "not the clone's", c, fdb.Entry{1, 9, 300}, fdb.Entry{3, 2, 298})

	// A clone has the same ends.
	c.Learn(2, 0)
	c.Learn(4, 0)
	holds(t, "clone's room", c, fdb.Entry{1, 9, 300}, fdb.Entry{2, 0, 300}, fdb.Entry{4, 0, 300})
}

// P7.6: there are never more than may be, nor older ones; and a map of what was learned last tells the same.
func TestBounds(t *testing.T) {
	const most, age = 5, 7
	f := fdb.New(most, age)
	n := uint64(3)
	next := func(m int) int {
		n = n*6364136223846793005 + 1442695040888963407
		return int(n >> 33 % uint64(m))
	}
	for range 5000 {
		mac, port := uint64(next(12)), next(4)
		switch next(6) {
		case 0:
			f.Tick()
		case 1:
			f.Short(port, next(9)-1)
		case 2:
			if next(4) == 0 {
				f.Flush(port)
			}
		default:
			if f.Learn(mac, port) {
				if at, ok := f.Find(mac); at != port || !ok {
					t.Errorf("%d learned behind %d, found behind %d", mac, port, at)
				}
			}
		}
		l := f.All()
		if len(l) > most {
			t.Fatalf("%d entries", len(l))
		}
		for _, e := range l {
			if e.Sec < 1 || e.Sec > age {
				t.Fatalf("%v", e)
			}
		}
	}
}

// P7.2: the greatest database holds all its entries.
func TestGreatest(t *testing.T) {
	f := fdb.New(api.MaxEntries, fdb.MaxAge)
	for i := range api.MaxEntries {
		f.Learn(uint64(i+1), i)
	}
	if n := len(f.All()); n != api.MaxEntries {
		t.Error(n)
	}
	f.Learn(1<<30, 5)
	if _, ok := f.Find(1); ok || len(f.All()) != api.MaxEntries {
		t.Error("the least one is there yet")
	}
}
