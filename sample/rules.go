package sample

import (
	"tallystick/api"
	"tallystick/head"
)

// Easy is bits by which about every second header is proved.
const Easy = 0x207fffff

// Rules: by the easy bits, which change every so many headers, from a genesis at 100000 seconds on.
func Rules(every int) api.Rules {
	return api.Rules{Limit: Easy, Every: every, Spacing: 10, Subsidy: 50, Work: 3, Genesis: api.Block{Header: api.Header{Version: 1, Time: 100000, Bits: Easy}}}
}

// Mined: a header with a nonce behind which work stands; the zero one, if there is none.
func Mined(h api.Header) api.Header {
	m, _ := head.Mine(h, Easy, 1<<16)
	return m
}

// Behind: a header behind another one, a second later and of the same bits; mark tells it from others.
func Behind(h api.Header, mark int) api.Header {
	return Mined(api.Header{Version: uint32(mark), Prev: head.ID(h), Time: h.Time + 1, Bits: h.Bits})
}
