package bpdu_test

import (
	"bytes"
	"math"
	"testing"

	"ford/api"
	"ford/bpdu"
	"ford/times"
)

// full is a message of a kind with all that a message may have.
func full(kind int) api.Msg {
	return api.Msg{
		Kind: kind, Change: true, Ack: true, Proposal: true, Agreement: true, Learning: true, Forwarding: true, Role: api.RoleRoot,
		Vec:   api.Vec{Root: 0x0102030405060708, Cost: 0x090a0b0c, Bridge: 0x1112131415161718, Port: 0x191a, Rx: 0x2122},
		Times: api.Times{Age: 1, Max: 20, Hello: 2, Delay: 15},
	}
}

// body are the bytes behind the flags of full.
func body() []byte {
	return []byte{1, 2, 3, 4, 5, 6, 7, 8, 9, 10, 11, 12, 0x11, 0x12, 0x13, 0x14, 0x15, 0x16, 0x17, 0x18, 0x19, 0x1a, 1, 0, 20, 0, 2, 0, 15, 0}
}

// bytesOf are a message's bytes: the first four, its flags, and the body.
func bytesOf(third, fourth, flags byte) []byte {
	return append([]byte{0, 0, third, fourth, flags}, body()...)
}

// rstBytes are those of an Rst.
func rstBytes(flags byte) []byte { return append(bytesOf(2, 2, flags), 0) }

// P5.1: the bytes of each kind.
func TestEncode(t *testing.T) {
	if got, want := bpdu.Encode(full(api.Config)), bytesOf(0, 0, 129); !bytes.Equal(got, want) || len(got) != bpdu.ConfigLen {
		t.Errorf("Config: %v, not %v", got, want)
	}
	if got := bpdu.Encode(full(api.Tcn)); !bytes.Equal(got, []byte{0, 0, 0, 128}) || len(got) != bpdu.TcnLen {
		t.Errorf("Tcn: %v", got)
	}
	if got, want := bpdu.Encode(full(api.Rst)), rstBytes(251); !bytes.Equal(got, want) || len(got) != bpdu.RstLen {
		t.Errorf("Rst: %v, not %v", got, want)
	}
	if bpdu.ConfigLen != 35 || bpdu.TcnLen != 4 || bpdu.RstLen != 36 {
		t.Error("lengths")
	}
}

// P5.1: of a kind that is none no bytes.
func TestEncodeNone(t *testing.T) {
	for _, kind := range []int{-1, 3, 128, 256, math.MaxInt, math.MinInt} {
		if got := bpdu.Encode(full(kind)); len(got) != 0 {
			t.Errorf("kind %d: %v", kind, got)
		}
	}
}

// flagCases are messages with one flag, or role, alone, and the byte that tells it: of an Rst, and of a Config.
func flagCases() []struct {
	m           api.Msg
	rst, config byte
} {
	return []struct {
		m           api.Msg
		rst, config byte
	}{
		{api.Msg{}, 0, 0},
		{api.Msg{Change: true}, 1, 1},
		{api.Msg{Proposal: true}, 2, 0},
		{api.Msg{Role: api.RoleDisabled}, 0, 0},
		{api.Msg{Role: api.RoleAlternate}, 4, 0},
		{api.Msg{Role: api.RoleBackup}, 4, 0},
		{api.Msg{Role: api.RoleRoot}, 8, 0},
		{api.Msg{Role: api.RoleDesignated}, 12, 0},
		{api.Msg{Role: 5}, 0, 0},
		{api.Msg{Role: -1}, 0, 0},
		{api.Msg{Role: 257}, 0, 0},
		{api.Msg{Learning: true}, 16, 0},
		{api.Msg{Forwarding: true}, 32, 0},
		{api.Msg{Agreement: true}, 64, 0},
		{api.Msg{Ack: true}, 128, 128},
	}
}

// P5.1: each flag has its bit, a Config's two alone.
func TestEncodeFlags(t *testing.T) {
	for _, c := range flagCases() {
		m := c.m
		m.Kind = api.Rst
		if got := bpdu.Encode(m); len(got) != 36 || got[4] != c.rst {
			t.Errorf("Rst %v: %v", m, got)
		}
		m.Kind = api.Config
		if got := bpdu.Encode(m); len(got) != 35 || got[4] != c.config {
			t.Errorf("Config %v: %v", m, got)
		}
	}
}

// P5.1: times are told as far as two bytes can.
func TestEncodeTimes(t *testing.T) {
	m := api.Msg{Kind: api.Rst, Times: api.Times{Age: -5, Max: 256, Hello: math.MaxInt, Delay: 255}}
	if got := bpdu.Encode(m); len(got) != 36 || !bytes.Equal(got[27:], []byte{0, 0, 255, 0, 255, 0, 255, 0, 0}) {
		t.Error(got)
	}
}

// P5.2: what is told of each kind.
func TestPlain(t *testing.T) {
	want := full(api.Rst)
	want.Vec.Rx = 0
	if got := bpdu.Plain(full(api.Rst)); got != want {
		t.Errorf("Rst: %v, not %v", got, want)
	}
	want = api.Msg{Kind: api.Config, Change: true, Ack: true, Role: api.RoleDesignated, Vec: want.Vec, Times: want.Times}
	if got := bpdu.Plain(full(api.Config)); got != want {
		t.Errorf("Config: %v, not %v", got, want)
	}
	if got := bpdu.Plain(full(api.Tcn)); got != (api.Msg{Kind: api.Tcn}) {
		t.Errorf("Tcn: %v", got)
	}
	for _, kind := range []int{-1, 3, math.MaxInt} {
		if got := bpdu.Plain(full(kind)); got != (api.Msg{}) {
			t.Errorf("kind %d: %v", kind, got)
		}
	}
}

// P5.2: flags stay as they are, but where the kind doesn't tell them.
func TestPlainFlags(t *testing.T) {
	for _, c := range flagCases() {
		m := c.m
		m.Kind = api.Rst
		want := m
		switch m.Role {
		case api.RoleBackup:
			want.Role = api.RoleAlternate
		case 5, -1, 257:
			want.Role = api.RoleDisabled
		}
		if got := bpdu.Plain(m); got != want {
			t.Errorf("Rst %v: %v", m, got)
		}
		m.Kind = api.Config
		want = api.Msg{Kind: api.Config, Change: m.Change, Ack: m.Ack, Role: api.RoleDesignated}
		if got := bpdu.Plain(m); got != want {
			t.Errorf("Config %v: %v", m, got)
		}
	}
}

// P5.2: times as they are told; an age of a Config plays no part here.
func TestPlainTimes(t *testing.T) {
	m := api.Msg{Kind: api.Config, Times: api.Times{Age: 300, Max: -1, Hello: 255, Delay: 256}}
	if got := bpdu.Plain(m).Times; got != (api.Times{Age: 255, Max: 0, Hello: 255, Delay: 255}) {
		t.Error(got)
	}
	m = api.Msg{Kind: api.Rst, Times: api.Times{Age: math.MinInt, Max: math.MaxInt, Hello: 0, Delay: 1}}
	if got := bpdu.Plain(m).Times; got != (api.Times{Age: 0, Max: 255, Hello: 0, Delay: 1}) {
		t.Error(got)
	}
}

// wrong holds bytes against the error that they must make.
func wrong(t *testing.T, name string, b []byte, want api.Errno) {
	t.Helper()
	if m, e := bpdu.Decode(b); e != want || m != (api.Msg{}) {
		t.Errorf("%s: %v %v, not %v", name, m, e, want)
	}
}

// right holds bytes against the message that they must be.
func right(t *testing.T, name string, b []byte, want api.Msg) {
	t.Helper()
	if m, e := bpdu.Decode(b); e != api.OK || m != want {
		t.Errorf("%s: %v %v, not %v", name, m, e, want)
	}
}

// P5.3: messages of all kinds.
func TestDecode(t *testing.T) {
	right(t, "Rst", rstBytes(251), bpdu.Plain(full(api.Rst)))
	right(t, "Config", bytesOf(0, 0, 129), bpdu.Plain(full(api.Config)))
	right(t, "Config with all flags", bytesOf(0, 0, 255), bpdu.Plain(full(api.Config)))
	right(t, "Config without flags", bytesOf(0, 0, 126), api.Msg{Kind: api.Config, Role: api.RoleDesignated, Vec: bpdu.Plain(full(api.Config)).Vec, Times: full(api.Config).Times})
	right(t, "Tcn", []byte{0, 0, 0, 128}, api.Msg{Kind: api.Tcn})
}

// P5.3: what is behind plays no part, nor the third byte, but of an Rst.
func TestDecodeBehind(t *testing.T) {
	for _, third := range []byte{0, 1, 2, 3, 255} {
		right(t, "Tcn", []byte{0, 0, third, 128, 1, 2, 3}, api.Msg{Kind: api.Tcn})
		right(t, "Config", append(bytesOf(third, 0, 129), 5, 6), bpdu.Plain(full(api.Config)))
		if third >= 2 {
			right(t, "Rst", append(bytesOf(third, 2, 251), 77, 88), bpdu.Plain(full(api.Rst)))
		} else {
			wrong(t, "Rst of an elder version", append(bytesOf(third, 2, 251), 0), api.ErrKind)
		}
	}
}

// P5.3: each flag and each role alone.
func TestDecodeFlags(t *testing.T) {
	vec, tm := bpdu.Plain(full(api.Rst)).Vec, full(api.Rst).Times
	for _, c := range []struct {
		flags byte
		m     api.Msg
	}{
		{0, api.Msg{}},
		{1, api.Msg{Change: true}},
		{2, api.Msg{Proposal: true}},
		{4, api.Msg{Role: api.RoleAlternate}},
		{8, api.Msg{Role: api.RoleRoot}},
		{12, api.Msg{Role: api.RoleDesignated}},
		{16, api.Msg{Learning: true}},
		{32, api.Msg{Forwarding: true}},
		{64, api.Msg{Agreement: true}},
		{128, api.Msg{Ack: true}},
	} {
		c.m.Kind, c.m.Vec, c.m.Times = api.Rst, vec, tm
		right(t, "Rst", rstBytes(c.flags), c.m)
	}
}

// P5.3: errors, the first one that applies.
func TestDecodeErrors(t *testing.T) {
	wrong(t, "nil", nil, api.ErrShort)
	wrong(t, "none", []byte{}, api.ErrShort)
	wrong(t, "three bytes", []byte{0, 0, 0}, api.ErrShort)
	wrong(t, "three wrong bytes", []byte{1, 1, 1}, api.ErrShort)
	wrong(t, "first byte", []byte{1, 0, 0, 128}, api.ErrForm)
	wrong(t, "second byte", []byte{0, 1, 0, 128}, api.ErrForm)
	wrong(t, "form ahead of kind", []byte{0, 1, 0, 77}, api.ErrForm)
	wrong(t, "form ahead of length", []byte{128, 0, 0, 0}, api.ErrForm)
	for _, kind := range []byte{1, 3, 127, 129, 130, 255} {
		wrong(t, "kind", bytesOf(2, kind, 0), api.ErrKind)
		wrong(t, "kind ahead of length", []byte{0, 0, 2, kind}, api.ErrKind)
	}
	wrong(t, "Rst of an elder version ahead of length", []byte{0, 0, 1, 2}, api.ErrKind)
	for n := 4; n < 35; n++ {
		wrong(t, "short Config", bytesOf(0, 0, 0)[:n], api.ErrShort)
		wrong(t, "short Rst", rstBytes(0)[:n], api.ErrShort)
	}
	wrong(t, "Rst of 35", rstBytes(0)[:35], api.ErrShort)
	old := bytesOf(0, 0, 0)
	old[27] = 99
	wrong(t, "length ahead of times", old[:34], api.ErrShort)
	wrong(t, "times", old, api.ErrTimes)
}

// P5.3: an age is held against the greatest one in 256ths, of a Config alone.
func TestDecodeAge(t *testing.T) {
	for _, c := range []struct {
		age, most [2]byte
		config    bool
	}{
		{[2]byte{20, 0}, [2]byte{20, 0}, false},
		{[2]byte{19, 255}, [2]byte{20, 0}, true},
		{[2]byte{20, 0}, [2]byte{20, 1}, true},
		{[2]byte{20, 1}, [2]byte{20, 0}, false},
		{[2]byte{0, 0}, [2]byte{0, 0}, false},
		{[2]byte{0, 0}, [2]byte{0, 1}, true},
		{[2]byte{255, 254}, [2]byte{255, 255}, true},
		{[2]byte{255, 255}, [2]byte{255, 255}, false},
	} {
		b := rstBytes(0)
		copy(b[27:], c.age[:])
		copy(b[29:], c.most[:])
		want := full(api.Rst).Times
		want.Age = times.From(uint16(c.age[0])<<8 | uint16(c.age[1]))
		want.Max = times.From(uint16(c.most[0])<<8 | uint16(c.most[1]))
		vec := bpdu.Plain(full(api.Rst)).Vec
		right(t, "Rst", b, api.Msg{Kind: api.Rst, Vec: vec, Times: want})
		b[2], b[3] = 0, 0
		if c.config {
			right(t, "Config", b, api.Msg{Kind: api.Config, Role: api.RoleDesignated, Vec: vec, Times: want})
		} else {
			wrong(t, "Config", b, api.ErrTimes)
		}
	}
}

// R5: what is handed in isn't changed; what is answered is memory of its own.
func TestOwn(t *testing.T) {
	b := rstBytes(251)
	bpdu.Decode(b)
	if !bytes.Equal(b, rstBytes(251)) {
		t.Error("changed")
	}
	for kind := range 3 {
		a := bpdu.Encode(full(kind))
		a[0], a[3] = 9, 9
		if b := bpdu.Encode(full(kind)); b[0] != 0 || b[3] == 9 {
			t.Error("shared")
		}
	}
}

// P5.4: what is encoded is decoded to what is plain of it, unless its age is wrong.
func TestEncodeDecode(t *testing.T) {
	n := uint64(1)
	next := func(most int) int {
		n = n*6364136223846793005 + 1442695040888963407
		return int(n >> 33 % uint64(most))
	}
	for range 5000 {
		m := api.Msg{
			Kind: next(5) - 1, Change: next(2) > 0, Ack: next(2) > 0, Proposal: next(2) > 0, Agreement: next(2) > 0, Learning: next(2) > 0, Forwarding: next(2) > 0,
			Role:  next(7) - 1,
			Vec:   api.Vec{Root: n, Cost: uint32(next(1 << 31)), Bridge: n * 3, Port: uint16(next(1 << 16)), Rx: uint16(next(9))},
			Times: api.Times{Age: next(300) - 20, Max: next(300) - 20, Hello: next(300) - 20, Delay: next(300) - 20},
		}
		got, e := bpdu.Decode(bpdu.Encode(m))
		want, we := bpdu.Plain(m), api.OK
		switch {
		case m.Kind < api.Config || m.Kind > api.Rst:
			want, we = api.Msg{}, api.ErrShort
		case m.Kind == api.Config && want.Times.Age >= want.Times.Max:
			want, we = api.Msg{}, api.ErrTimes
		}
		if got != want || e != we {
			t.Errorf("%v is told back as %v, %v", m, got, e)
		}
	}
}
