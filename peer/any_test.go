package peer

import (
	"testing"

	"tallystick/api"
	"tallystick/msg"
	"tallystick/sample"
)

// piece is bytes, and what they are: a message, one of a kind that there isn't, wrong data, or none of a Feed's.
type piece struct {
	b    []byte
	m    msg.Msg
	what string
}

// plain is somebody as the chapter tells of them: all that came is kept, and all is worked out anew.
type plain struct {
	nonce  uint64
	from   int
	blames []int     // in all
	came   []msg.Msg // messages, as long as the score wasn't 100
	pings  []int     // the ticks of those that were said
	pongs  [][]int   // of each of them, how many pongs with its nonce came
}

func (p *plain) score() int {
	sum := 0
	for _, n := range p.blames {
		sum = min(sum+max(n, 0), 100)
	}
	return sum
}

// first: the place of the first message of a kind, from another one on; -1: there is none.
func (p *plain) first(kind, from int) int {
	for i, m := range p.came {
		if i >= from && m.Kind == kind {
			return i
		}
	}
	return -1
}

// known, greeted: the places of the version and the verack that count.
func (p *plain) known() int {
	at := p.first(msg.Version, 0)
	if at >= 0 && p.came[at].Nonce == p.nonce {
		return -1
	}
	return at
}

func (p *plain) greeted() int {
	if p.known() < 0 {
		return -1
	}
	return p.first(msg.Verack, p.known())
}

func (p *plain) height() uint32 {
	if at := p.known(); at >= 0 {
		return p.came[at].Height
	}
	return 0
}

// waits: was the last ping not answered yet?
func (p *plain) waits() bool {
	last := len(p.pings) - 1
	return last >= 0 && len(p.pongs[last]) == 0
}

// last: the tick of the last ping, or of New.
func (p *plain) last() int {
	if len(p.pings) > 0 {
		return p.pings[len(p.pings)-1]
	}
	return p.from
}

func (p *plain) hear(list []piece) (said, answers []msg.Msg) {
	broken := false
	for _, x := range list {
		broken = broken || x.what == "broken"
		if broken || p.score() == 100 {
			continue
		}
		if x.what == "wrong" {
			p.blames = append(p.blames, 20)
		}
		if x.what == "right" {
			on, back := p.take(x.m)
			said, answers = append(said, on...), append(answers, back...)
		}
	}
	if broken {
		p.blames = append(p.blames, 100)
	}
	return said, answers
}

func (p *plain) take(m msg.Msg) (said, answers []msg.Msg) {
	at := len(p.came)
	p.came = append(p.came, m)
	if done := p.greeted(); m.Kind == msg.Version || m.Kind == msg.Verack || done < 0 {
		switch {
		case m.Kind == msg.Version && p.first(msg.Version, 0) == at && m.Nonce == p.nonce:
			p.blames = append(p.blames, 100)
		case p.known() == at:
			return nil, []msg.Msg{{Kind: msg.Verack}}
		case done != at:
			p.blames = append(p.blames, 10)
		}
		return nil, nil
	}
	switch m.Kind {
	case msg.Ping:
		return nil, []msg.Msg{{Kind: msg.Pong, Nonce: m.Nonce}}
	case msg.Pong:
		if n := len(p.pings) - 1; n >= 0 && m.Nonce == p.nonce+uint64(p.pings[n]) {
			p.pongs[n] = append(p.pongs[n], at)
		}
		return nil, nil
	}
	return []msg.Msg{m}, nil
}

func (p *plain) tick(now int) ([]msg.Msg, bool) {
	if p.greeted() < 0 {
		return nil, now-p.from < 60
	}
	if p.waits() {
		return nil, now-p.last() < 60
	}
	if now-p.last() < 120 {
		return nil, true
	}
	p.pings, p.pongs = append(p.pings, now), append(p.pongs, nil)
	return []msg.Msg{{Kind: msg.Ping, Nonce: p.nonce + uint64(now)}}, true
}

// thrown is anything that may come; most of it is right.
func (p *plain) thrown(d *sample.Dice) piece {
	right := func(m msg.Msg) piece { return piece{laid(m), m, "right"} }
	switch d.Below(20) {
	case 0, 1:
		return right(msg.Msg{Kind: msg.Version, Nonce: uint64(d.Below(20)), Height: uint32(d.Next())})
	case 2, 3:
		return right(verack)
	case 4:
		return right(ping(uint64(d.Next())))
	case 5:
		return right(pong(p.nonce + uint64(d.Below(300))))
	case 6:
		if d.Below(3) == 0 {
			list := wrongs()
			return piece{list[d.Below(len(list))], msg.Msg{}, "wrong"}
		}
	case 7:
		if d.Below(6) == 0 {
			list := broken()
			return piece{list[d.Below(len(list))], msg.Msg{}, "broken"}
		}
	case 8:
		return piece{framed("abcd", d.Text(d.Below(40))...), msg.Msg{}, "none"}
	}
	if d.Below(2) == 0 {
		return right(pong(p.nonce + uint64(p.last())))
	}
	list := others(d)
	return right(list[d.Below(len(list))])
}

// heardInParts hands a row of bytes over, parted anywhere.
func heardInParts(d *sample.Dice, p *Peer, b []byte) (said, answers []msg.Msg) {
	for len(b) > 0 {
		n := 1 + d.Below(len(b))
		on, back := p.Hear(b[:n])
		said, answers = append(said, on...), append(answers, back...)
		b = b[n:]
	}
	return said, answers
}

func (p *plain) compare(t *testing.T, q *Peer) {
	t.Helper()
	stands(t, "any", q, p.score(), p.greeted() >= 0, p.height())
	if q.Held() != 0 {
		t.Errorf("%d held", q.Held())
	}
}

// Any messages, in pieces of any length, are taken as the chapter says, whatever the ticks are.
func TestAnyMessages(t *testing.T) {
	d := sample.Dice(7)
	bad, ready, late, said, pinged := 0, 0, 0, 0, 0
	for range 1500 {
		now := d.Below(300) - 150
		p := &plain{nonce: uint64(d.Below(20)), from: now}
		q, _ := New(p.nonce, 5, now)
		open := true
		for range 40 {
			if t.Failed() {
				return
			}
			switch d.Below(8) {
			case 0, 1:
				now += d.Below(70)
				want, ok := p.tick(now)
				ticks(t, q, now, ok, want...)
				late, pinged = late+count(!ok), pinged+len(want)
			case 2:
				n := d.Below(8) - 4
				q.Blame(n)
				p.blames = append(p.blames, n)
			default:
				var list []piece
				var row []byte
				for range d.Below(4) {
					x := p.thrown(&d)
					list, row = append(list, x), append(row, x.b...)
					open = open && x.what != "broken"
				}
				on, back := p.hear(list)
				gotOn, gotBack := heardInParts(&d, q, row)
				if !same(gotOn, on) || !same(gotBack, back) {
					t.Fatalf("said %v, answered %v; want %v, %v", gotOn, gotBack, on, back)
				}
				said += len(on)
			}
			p.compare(t, q)
			if !open {
				break
			}
		}
		bad, ready = bad+count(q.Bad()), ready+count(q.Ready())
	}
	if bad < 100 || bad > 1400 || ready < 300 || late < 300 || said < 1000 || pinged < 300 {
		t.Errorf("%d are bad, %d have greeted, %d ticks were too late, %d messages were said on, %d pings went out", bad, ready, late, said, pinged)
	}
}

func count(is bool) int {
	if is {
		return 1
	}
	return 0
}

// P1: any bytes, in any pieces, are taken.
func TestAnyBytes(t *testing.T) {
	d := sample.Dice(8)
	for range 3000 {
		p := come(0)
		if d.Below(2) == 0 {
			p = greeted(t, 0)
		}
		row := laid(append(others(&d), version, verack, ping(3))...)
		for range d.Below(4) {
			row[d.Below(len(row))] ^= 1 << d.Below(8)
		}
		at := d.Below(len(row))
		said, answers := heardInParts(&d, p, row[at*d.Below(2):])
		for _, m := range append(said, answers...) {
			if _, e := msg.Encode(m); e != api.OK {
				t.Fatalf("%v can't be laid: %v", m, e)
			}
		}
		if p.Score() < 0 || p.Score() > 100 || p.Bad() != (p.Score() == 100) {
			t.Fatalf("Score %d, Bad %v", p.Score(), p.Bad())
		}
	}
}
