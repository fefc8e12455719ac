package llc_test

import (
	"bytes"
	"testing"

	"ford/api"
	"ford/bpdu"
	"ford/llc"
)

// rst is an Rst with something in each part.
func rst() api.Msg {
	return api.Msg{
		Kind: api.Rst, Proposal: true, Forwarding: true, Role: api.RoleBackup,
		Vec:   api.Vec{Root: 1, Cost: 2, Bridge: 3, Port: 4, Rx: 5},
		Times: api.Times{Age: 1, Max: 20, Hello: 2, Delay: 15},
	}
}

// frame is a frame by hand: head, source, size, link, message, and zeros.
func frame(size int, msg ...byte) []byte {
	f := []byte{1, 0x80, 0xc2, 0, 0, 0, 11, 12, 13, 14, 15, 16, byte(size >> 8), byte(size), 66, 66, 3}
	f = append(f, msg...)
	for len(f) < 60 {
		f = append(f, 0)
	}
	return f
}

const src = 0x0b0c0d0e0f10

// P6.1: a frame's bytes.
func TestWrap(t *testing.T) {
	if got, want := llc.Wrap(src, api.Msg{Kind: api.Tcn}), frame(7, 0, 0, 0, 128); !bytes.Equal(got, want) {
		t.Errorf("Tcn: %v, not %v", got, want)
	}
	m := rst()
	if got, want := llc.Wrap(src, m), frame(39, bpdu.Encode(m)...); !bytes.Equal(got, want) {
		t.Errorf("Rst: %v, not %v", got, want)
	}
	m.Kind = api.Config
	if got, want := llc.Wrap(src, m), frame(38, bpdu.Encode(m)...); !bytes.Equal(got, want) {
		t.Errorf("Config: %v, not %v", got, want)
	}
	if got, want := llc.Wrap(0xffff<<48|src, m), frame(38, bpdu.Encode(m)...); !bytes.Equal(got, want) {
		t.Errorf("long source: %v, not %v", got, want)
	}
	if llc.Group != 0x0180c2000000 || llc.Least != 60 {
		t.Error("constants")
	}
}

// P6.1: a message without bytes has no frame.
func TestWrapNone(t *testing.T) {
	for _, kind := range []int{-1, 3, 1 << 40} {
		m := rst()
		m.Kind = kind
		if got := llc.Wrap(src, m); len(got) != 0 {
			t.Errorf("kind %d: %v", kind, got)
		}
	}
}

// P6.2: who sent it, and what.
func TestOpen(t *testing.T) {
	m := rst()
	for _, c := range []struct {
		name string
		f    []byte
		want api.Msg
	}{
		{"Rst", frame(39, bpdu.Encode(m)...), bpdu.Plain(m)},
		{"Tcn", frame(7, 0, 0, 0, 128), api.Msg{Kind: api.Tcn}},
		{"no padding", frame(7, 0, 0, 0, 128)[:21], api.Msg{Kind: api.Tcn}},
		{"bytes behind", append(frame(39, bpdu.Encode(m)...), 1, 2, 3), bpdu.Plain(m)},
		{"size with padding", frame(46, 0, 0, 0, 128), api.Msg{Kind: api.Tcn}},
		{"great size", append(frame(300, 0, 0, 0, 128), make([]byte, 254)...), api.Msg{Kind: api.Tcn}},
	} {
		if s, got, e := llc.Open(c.f); s != src || got != c.want || e != api.OK {
			t.Errorf("%s: %#x %v %v", c.name, s, got, e)
		}
	}
}

// with is a frame with a byte changed.
func with(f []byte, at int, b byte) []byte {
	f = bytes.Clone(f)
	f[at] = b
	return f
}

// P6.2: what is wrong, the first of it.
func TestOpenWrong(t *testing.T) {
	tcn := frame(7, 0, 0, 0, 128)
	type row struct {
		name string
		f    []byte
		want api.Errno
	}
	l := []row{
		{"nil", nil, api.ErrShort},
		{"16 bytes", tcn[:16], api.ErrShort},
		{"16 wrong bytes", bytes.Repeat([]byte{9}, 16), api.ErrShort},
		{"17 bytes, and a size of more", tcn[:17], api.ErrForm},
		{"17 bytes, and a size of 3", with(tcn, 13, 3)[:17], api.ErrShort},
		{"size 3", with(tcn, 13, 3), api.ErrShort},
		{"size 2", with(tcn, 13, 2), api.ErrForm},
		{"size 0", with(tcn, 13, 0), api.ErrForm},
		{"size of all that is there", with(tcn, 13, 46), api.OK},
		{"size of one more", with(tcn, 13, 47), api.ErrForm},
		{"size by its upper byte", with(tcn, 12, 1), api.ErrForm},
		{"size that cuts the message", with(tcn, 13, 6), api.ErrShort},
		{"cut frame", tcn[:20], api.ErrForm},
		{"message's form", with(tcn, 17, 1), api.ErrForm},
		{"message's kind", with(tcn, 20, 7), api.ErrKind},
		{"message of a Config, cut by size", frame(37, bpdu.Encode(api.Msg{Kind: api.Config})...), api.ErrShort},
		{"message's times", frame(38, bpdu.Encode(api.Msg{Kind: api.Config})...), api.ErrTimes},
		{"form ahead of the message's kind", with(with(tcn, 20, 7), 0, 0), api.ErrForm},
	}
	for at := range 6 {
		l = append(l, row{"group", with(tcn, at, tcn[at]^1), api.ErrForm})
	}
	for at := 14; at < 17; at++ {
		l = append(l, row{"link", with(tcn, at, tcn[at]^1), api.ErrForm})
	}
	for _, c := range l {
		s, m, e := llc.Open(c.f)
		if e != c.want || e != api.OK && (s != 0 || m != (api.Msg{})) {
			t.Errorf("%s: %#x %v %v, not %v", c.name, s, m, e, c.want)
		}
	}
}

// R5: what is handed in isn't changed; what is answered is memory of its own.
func TestOwn(t *testing.T) {
	f := frame(39, bpdu.Encode(rst())...)
	llc.Open(f)
	if !bytes.Equal(f, frame(39, bpdu.Encode(rst())...)) {
		t.Error("changed")
	}
	a := llc.Wrap(src, rst())
	a[0], a[59] = 99, 99
	if b := llc.Wrap(src, rst()); !bytes.Equal(b, f) {
		t.Error("shared")
	}
}

// P6.3: what is wrapped is opened to what is plain of it.
func TestWrapOpen(t *testing.T) {
	for kind := range 3 {
		for role := range 5 {
			m := rst()
			m.Kind, m.Role = kind, role
			for _, from := range []uint64{0, src, 1<<48 - 1, 1<<64 - 1} {
				f := llc.Wrap(from, m)
				if s, got, e := llc.Open(f); len(f) != 60 || s != from&(1<<48-1) || got != bpdu.Plain(m) || e != api.OK {
					t.Errorf("%v of %#x: %#x %v %v", m, from, s, got, e)
				}
			}
		}
	}
}
