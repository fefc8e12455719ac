package tx_test

import (
	"slices"
	"testing"

	"ford/api"
	"ford/samples"
	"ford/tx"
)

// msg is what a port sends.
func msg(p api.Port, kind int) api.Msg {
	v := p.Designated
	v.Rx = 0
	f := p.Flags
	switch kind {
	case api.Tcn:
		return api.Msg{Kind: api.Tcn}
	case api.Config:
		return api.Msg{Kind: api.Config, Change: p.Clocks.Tc != 0, Ack: f.TcAck, Role: api.RoleDesignated, Vec: v, Times: p.DesTimes}
	case api.Rst:
		return api.Msg{
			Kind: api.Rst, Change: p.Clocks.Tc != 0, Proposal: f.Proposing, Agreement: f.Agree, Learning: f.Learning, Forwarding: f.Forwarding,
			Role: p.Role, Vec: v, Times: p.DesTimes,
		}
	}
	return api.Msg{}
}

// P12.1: what is sent of each kind, and nothing of a kind that is none.
func TestMsg(t *testing.T) {
	d := samples.New(121)
	for range 3000 {
		b := samples.Bridge(d)
		i := d.Upto(len(b.Ports))
		b.Ports[i].Designated.Rx = 7
		ahead := samples.Copy(b)
		for kind := -1; kind < 5; kind++ {
			if got, want := tx.Msg(b, i, kind), msg(b.Ports[i], kind); got != want {
				t.Fatalf("kind %d of %+v: %+v, not %+v", kind, b.Ports[i], got, want)
			}
		}
		if !samples.Same(b, ahead) {
			t.Fatal("changed")
		}
	}
}

// sent is what a row does that sends.
func sent(b *api.Bridge, i, kind int) {
	p := &b.Ports[i]
	b.Out = append(slices.Clone(b.Out), api.Sent{Port: i, Msg: msg(*p, kind)})
	p.Flags.NewInfo = false
	if kind != api.Tcn {
		p.Flags.TcAck = false
	}
	p.Clocks.TxCount++
	p.Clocks.Hello = b.Times.Hello
}

// rows does what the first row says that holds, and tells which one.
func rows(b *api.Bridge, i int) int {
	p := &b.Ports[i]
	f := &p.Flags
	news := f.NewInfo && p.Clocks.TxCount < b.Hold
	switch {
	case !f.Selected || f.UpdtInfo:
		return 0
	case p.Clocks.Hello == 0:
		f.NewInfo = f.NewInfo || p.Role == api.RoleDesignated || p.Role == api.RoleRoot && p.Clocks.Tc != 0
		p.Clocks.Hello = b.Times.Hello
		return 1
	case news && !f.SendRst && p.Role == api.RoleDesignated:
		sent(b, i, api.Config)
		return 2
	case news && !f.SendRst && p.Role == api.RoleRoot:
		sent(b, i, api.Tcn)
		return 3
	case news && f.SendRst && p.Role != api.RoleDisabled:
		sent(b, i, api.Rst)
		return 4
	}
	return 0
}

// P12.2: a step does what its rows say.
func TestRows(t *testing.T) {
	if f, wrong := samples.Against(tx.Step, rows, 4, 20000); wrong {
		t.Errorf("%+v", f)
	}
}

// one is a bridge of a designated port that has news.
func one() api.Bridge {
	p := api.Port{
		ID: 0x8001, Enabled: true, Role: api.RoleDesignated, Clocks: api.Clocks{Hello: 1},
		Flags:      api.Flags{Selected: true, SendRst: true, NewInfo: true, TcAck: true},
		Designated: api.Vec{Root: 1, Cost: 2, Bridge: 5, Port: 0x8001},
	}
	return api.Bridge{ID: 5, Rst: true, Times: api.Times{Max: 20, Hello: 2, Delay: 15}, Hold: 6, RootPort: -1, Ports: []api.Port{p}}
}

// P12.2: the example.
func TestExample(t *testing.T) {
	b := one()
	p := &b.Ports[0]
	want := []api.Sent{{Port: 0, Msg: api.Msg{Kind: api.Rst, Role: api.RoleDesignated, Vec: p.Designated}}}
	if !tx.Step(&b, 0) || !slices.Equal(b.Out, want) || p.Clocks != (api.Clocks{Hello: 2, TxCount: 1}) {
		t.Errorf("%+v", b)
	}
	if p.Flags != (api.Flags{Selected: true, SendRst: true}) {
		t.Errorf("%+v", p.Flags)
	}
	if tx.Step(&b, 0) {
		t.Error("nothing new")
	}
}

// P12.2: the order of what is sent, and a list of it that others hold stays as it is.
func TestOut(t *testing.T) {
	b := one()
	held := make([]api.Sent, 1, 9)
	held[0] = api.Sent{Port: 7}
	b.Out = held
	tx.Step(&b, 0)
	if len(b.Out) != 2 || b.Out[0] != held[0] || b.Out[1].Port != 0 {
		t.Errorf("%+v", b.Out)
	}
	if behind := held[:2][1]; behind != (api.Sent{}) {
		t.Errorf("%+v stands in another one's list", behind)
	}
}

// P12.3: no port sends more than Hold messages without a tick; each speaks its own protocol alone.
func TestHold(t *testing.T) {
	d := samples.New(123)
	for range 3000 {
		b := samples.Bridge(d)
		b.Out = nil
		p := &b.Ports[0]
		p.Clocks.TxCount = 0
		for range 40 {
			p.Flags.NewInfo = true
			tx.Step(&b, 0)
		}
		if len(b.Out) > b.Hold {
			t.Fatalf("%d messages with Hold %d", len(b.Out), b.Hold)
		}
		for _, s := range b.Out {
			if (s.Msg.Kind == api.Rst) != p.Flags.SendRst {
				t.Fatalf("%+v of %+v", s.Msg, p)
			}
		}
	}
}
