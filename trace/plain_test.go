package trace

import (
	"slices"
	"testing"

	"tallystick/api"
	"tallystick/msg"
	"tallystick/sample"
)

// plain is a book as the chapter tells of it.
type plain map[int]*heardSaid

// heardSaid is what was heard of one and said to them.
type heardSaid struct {
	greeting
	asked []api.ID
}

func (p plain) came(id int) api.Errno {
	if p[id] != nil {
		return api.ErrTwice
	}
	p[id] = &heardSaid{}
	return api.OK
}

func (p plain) count(id int) int {
	if p[id] == nil {
		return 0
	}
	return len(p[id].asked)
}

func (p plain) heard(id int, m msg.Msg, name api.ID) {
	g := p[id]
	if g == nil {
		return
	}
	switch m.Kind {
	case 1:
		g.does(0)
	case 2:
		g.does(1)
	case 7:
		g.asked = slices.DeleteFunc(g.asked, func(a api.ID) bool { return a == name })
	case 8:
		g.asked = slices.DeleteFunc(g.asked, func(a api.ID) bool { return slices.Contains(m.Names, a) })
	}
}

func (p plain) said(id int, m msg.Msg) api.Errno {
	g := p[id]
	if g == nil {
		return api.ErrMissing
	}
	if m.Kind == 1 || m.Kind == 2 {
		return g.does(m.Kind + 1)
	}
	if g.greeting != (greeting{true, true, true, true}) {
		return api.ErrState
	}
	if m.Kind != 6 {
		return api.OK
	}
	if len(m.Names) == 0 {
		return api.ErrShort
	}
	for i, name := range m.Names {
		if slices.Contains(m.Names[:i], name) {
			return api.ErrTwice
		}
		for _, other := range p {
			if slices.Contains(other.asked, name) {
				return api.ErrTwice
			}
		}
	}
	if len(g.asked)+len(m.Names) > 16 {
		return api.ErrFull
	}
	g.asked = append(g.asked, m.Names...)
	return api.OK
}

// someMsg is any message, and the name of a block.
func someMsg(d *sample.Dice) (msg.Msg, api.ID) {
	m := msg.Msg{Kind: 1 + d.Below(10)}
	if d.Below(2) == 0 {
		m.Kind = []int{-1, 0, 11, 6, 6, 6, 6, 6, 7, 8}[d.Below(10)]
	}
	for range d.Below(7) {
		m.Names = append(m.Names, names(d.Below(300), 1)...)
	}
	if len(m.Names) > 0 && d.Below(8) == 0 {
		m.Names = append(m.Names, m.Names[0])
	}
	return m, names(d.Below(300), 1)[0]
}

// P21.1, P21.2, P21.3: whatever is heard and said.
func TestAnyCalls(t *testing.T) {
	d := sample.Dice(21)
	answers := map[api.Errno]int{}
	for range 300 {
		var b Book
		p := plain{}
		most := 1 + d.Below(6)
		for range 400 {
			id := d.Below(most) - 1
			var got, want api.Errno
			m, name := someMsg(&d)
			switch k := d.Below(40); {
			case k < 3:
				got, want = b.Came(id), p.came(id)
			case k < 4 && d.Below(3) == 0:
				b.Gone(id)
				delete(p, id)
			case k < 14:
				b.Heard(id, m, name)
				p.heard(id, m, name)
			default:
				got, want = b.Said(id, m), p.said(id, m)
			}
			if got != want {
				t.Fatalf("%+v of %d: %v, want %v", m, id, got, want)
			}
			answers[got]++
			for id := range 8 {
				asked(t, "any calls", &b, id-1, p.count(id-1))
			}
			if b.Len() != len(p) {
				t.Fatalf("Len %d, want %d", b.Len(), len(p))
			}
		}
	}
	for _, e := range []api.Errno{api.OK, api.ErrMissing, api.ErrTwice, api.ErrState, api.ErrShort, api.ErrFull} {
		if answers[e] < 100 {
			t.Errorf("%v: %d times", e, answers[e])
		}
	}
}
