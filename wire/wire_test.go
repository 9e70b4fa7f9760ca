package wire

import (
	"bytes"
	"encoding/binary"
	"math"
	"testing"

	"tallystick/api"
	"tallystick/sample"
)

// text is n bytes, which are the same in every run.
func text(n int) []byte {
	d := sample.Dice(n + 5)
	return d.Text(n)
}

// counted is a number in the form with so many bytes behind a sign (0: without one), be there a shorter one or not.
func counted(n uint64, behind int) []byte {
	wide := binary.LittleEndian.AppendUint64(nil, n)[:max(behind, 1)]
	if behind == 0 {
		return wide
	}
	return append([]byte{map[int]byte{2: 253, 4: 254, 8: 255}[behind]}, wide...)
}

// behindOf is how many bytes the shortest form of a number has behind its sign.
func behindOf(n uint64) int {
	switch {
	case n <= 252:
		return 0
	case n <= 65535:
		return 2
	case n <= 4294967295:
		return 4
	}
	return 8
}

// counts are numbers at the edges of the forms.
var counts = []uint64{0, 1, 2, 100, 251, 252, 253, 254, 255, 256, 257, 0xfdfd, 65534, 65535, 65536, 65537, 1 << 24, 1<<32 - 2, 1<<32 - 1,
	1 << 32, 1<<32 + 1, 1<<53 + 1, 1<<63 - 1, 1 << 63, 1<<64 - 2, 1<<64 - 1}

func written(w *Writer, t *testing.T, what string, want []byte) {
	t.Helper()
	if got := w.Bytes(); !bytes.Equal(got, want) || w.Len() != len(want) {
		t.Errorf("%s: %x (%d), want %x", what, got, w.Len(), want)
	}
}

// refused asks whether an error is told, and nothing left behind it.
func refused(t *testing.T, what string, r *Reader, want api.Errno) {
	t.Helper()
	if r.Err() != want || r.End() != want || r.Left() != 0 {
		t.Errorf("%s: %v, at the end %v, %d left, want %v", what, r.Err(), r.End(), r.Left(), want)
	}
}

func left(t *testing.T, what string, r *Reader, want int) {
	t.Helper()
	end := api.OK
	if want > 0 {
		end = api.ErrForm
	}
	if r.Err() != api.OK || r.Left() != want || r.End() != end || r.Err() != api.OK || r.Left() != want {
		t.Errorf("%s: %v, at the end %v, %d left, want %d", what, r.Err(), r.End(), r.Left(), want)
	}
}

// P6.1
func TestPut(t *testing.T) {
	const n = 0x8877665544332211
	whole := []byte{0x11, 0x22, 0x33, 0x44, 0x55, 0x66, 0x77, 0x88}
	for size, want := range map[int]int{math.MinInt: 0, -256: 0, -8: 0, -1: 0, 0: 0, 1: 1, 2: 2, 3: 3, 4: 4, 5: 5, 6: 6, 7: 7, 8: 8, 9: 8, 16: 8, 256: 8, math.MaxInt: 8} {
		var one, two, none Writer
		one.Put(size, n)
		written(&one, t, "Put of one", whole[:want])
		two.Put(size, n, 5, n)
		five := []byte{5, 0, 0, 0, 0, 0, 0, 0}[:want]
		written(&two, t, "Put of three", bytes.Join([][]byte{whole[:want], five, whole[:want]}, nil))
		none.Put(size)
		none.Put(size, []uint64{}...)
		written(&none, t, "Put of none", nil)
	}
	var w Writer
	w.Put(2, 0x1ffff, 0x10000, math.MaxUint64)
	written(&w, t, "Put of numbers that are too great", []byte{0xff, 0xff, 0, 0, 0xff, 0xff})
}

// P6.1
func TestCountWritten(t *testing.T) {
	var all Writer
	var want []byte
	for _, n := range counts {
		var w Writer
		w.Count(n)
		form := counted(n, behindOf(n))
		written(&w, t, "Count", form)
		all.Count(n)
		want = append(want, form...)
		written(&all, t, "Counts one behind the other", want)
	}
	var w Writer
	w.Count(253)
	written(&w, t, "Count of 253", []byte{253, 253, 0})
}

// P6.2
func TestRawAndTextWritten(t *testing.T) {
	var w Writer
	written(&w, t, "nothing", nil)
	w.Raw()
	w.Raw(nil, []byte{}, nil)
	written(&w, t, "Raw of nothing", nil)
	w.Raw([]byte{1}, nil, []byte{2, 3}, []byte{4})
	written(&w, t, "Raw of parts", []byte{1, 2, 3, 4})
	w.Text(nil)
	w.Text([]byte{})
	w.Text([]byte("ab"))
	written(&w, t, "Text", []byte{1, 2, 3, 4, 0, 0, 2, 'a', 'b'})
	for _, n := range []int{0, 1, 252, 253, 254, 255, 256, 65535, 65536, 70000} {
		var w Writer
		w.Text(text(n))
		written(&w, t, "Text", append(counted(uint64(n), behindOf(uint64(n))), text(n)...))
	}
}

// P6.2: a zero Writer has nothing, and each has its own.
func TestWritersApart(t *testing.T) {
	var a, b Writer
	a.Put(1, 7)
	written(&b, t, "the other one", nil)
	b.Raw([]byte{1, 2})
	written(&a, t, "the first one", []byte{7})
}

// P6.3
func TestRawRead(t *testing.T) {
	b := text(300)
	for _, n := range []int{0, 1, 2, 31, 299, 300} {
		r := Read(b)
		if got := r.Raw(n); !bytes.Equal(got, b[:n]) {
			t.Errorf("Raw of %d: %x", n, got)
		}
		left(t, "Raw", r, 300-n)
	}
	for _, n := range []int{-1, -300, math.MinInt, 301, 302, 1 << 40, math.MaxInt} {
		r := Read(b)
		if got := r.Raw(n); len(got) != 0 {
			t.Errorf("Raw of %d: %x", n, got)
		}
		refused(t, "Raw of a wrong number", r, api.ErrShort)
	}
	r := Read(b)
	r.Raw(298)
	if r.Raw(3) != nil {
		t.Error("Raw of more than are left")
	}
	refused(t, "Raw of more than are left", r, api.ErrShort)
}

// P6.3
func TestNumRead(t *testing.T) {
	b := []byte{0x11, 0x22, 0x33, 0x44, 0x55, 0x66, 0x77, 0x88, 0x99, 0xaa, 0xbb, 0xcc}
	for size, want := range []uint64{0, 0x11, 0x2211, 0x332211, 0x44332211, 0x5544332211, 0x665544332211, 0x77665544332211, 0x8877665544332211,
		0x8877665544332211, 0x8877665544332211, 0x8877665544332211, 0x8877665544332211} {
		r := Read(b)
		if got := r.Num(size); got != want {
			t.Errorf("Num of %d: %x", size, got)
		}
		left(t, "Num", r, 12-size)
	}
	for _, size := range []int{-1, -8, math.MinInt, 13, 1 << 40, math.MaxInt} {
		r := Read(b)
		if got := r.Num(size); got != 0 {
			t.Errorf("Num of %d: %x", size, got)
		}
		refused(t, "Num of a wrong size", r, api.ErrShort)
	}
	long := bytes.Repeat([]byte{0xff}, 5000)
	if r := Read(long); r.Num(5000) != math.MaxUint64 || r.End() != api.OK {
		t.Error("Num of 5000 bytes")
	}
}

// P6.3
func TestCountRead(t *testing.T) {
	for _, n := range counts {
		for _, most := range counts {
			form := counted(n, behindOf(n))
			r := Read(append(form, 7, 8))
			got := r.Count(most)
			if n > most {
				if got != 0 {
					t.Errorf("Count of %d, at most %d: %d", n, most, got)
				}
				refused(t, "Count of too many", r, api.ErrLong)
				continue
			}
			if got != n {
				t.Errorf("Count of %d, at most %d: %d", n, most, got)
			}
			left(t, "Count", r, 2)
		}
	}
}

// P6.3: a Count that ends too soon; that is told first.
func TestCountCut(t *testing.T) {
	for _, behind := range []int{0, 2, 4, 8} {
		for _, n := range []uint64{0, 5, 252, 253, 65536, math.MaxUint64} {
			form := counted(n, behind)
			for cut := range len(form) {
				for _, most := range []uint64{0, 4, math.MaxUint64} {
					r := Read(form[:cut])
					if got := r.Count(most); got != 0 {
						t.Errorf("Count of %x: %d", form[:cut], got)
					}
					refused(t, "Count that is cut", r, api.ErrShort)
				}
			}
		}
	}
}

// P6.3: a form that has more bytes than another one; that is told ahead of a number that is too great.
func TestCountOfOtherForm(t *testing.T) {
	for _, behind := range []int{2, 4, 8} {
		for _, n := range counts {
			if behind <= behindOf(n) {
				continue
			}
			for _, most := range []uint64{0, n - min(n, 1), n, math.MaxUint64} {
				r := Read(append(counted(n, behind), 1, 2, 3))
				if got := r.Count(most); got != 0 {
					t.Errorf("Count of %d in %d bytes: %d", n, behind, got)
				}
				refused(t, "Count of another form", r, api.ErrForm)
			}
		}
	}
}

// P6.3
func TestTextRead(t *testing.T) {
	for _, n := range []int{0, 1, 252, 253, 254, 65535, 65536} {
		form := append(counted(uint64(n), behindOf(uint64(n))), text(n)...)
		for _, most := range []int{n, n + 1, math.MaxInt} {
			r := Read(append(bytes.Clone(form), 9))
			if got := r.Text(most); !bytes.Equal(got, text(n)) {
				t.Errorf("Text of %d bytes, at most %d: %d", n, most, len(got))
			}
			left(t, "Text", r, 1)
		}
		for _, most := range []int{n - 1, n / 2, 0, -1, math.MinInt} {
			r := Read(form)
			got := r.Text(most)
			if n == 0 {
				if len(got) != 0 {
					t.Errorf("Text of nothing: %x", got)
				}
				left(t, "Text of nothing", r, 0)
			} else if most < n {
				if len(got) != 0 {
					t.Errorf("Text of %d bytes, at most %d: %d", n, most, len(got))
				}
				refused(t, "Text that is too long", r, api.ErrLong)
			}
		}
		for cut := max(0, len(form)-300); cut < len(form); cut++ {
			r := Read(form[:cut])
			if got := r.Text(math.MaxInt); len(got) != 0 {
				t.Errorf("Text of %d bytes, cut to %d: %d", n, cut, len(got))
			}
			refused(t, "Text that is cut", r, api.ErrShort)
		}
	}
	r := Read([]byte{253, 2, 0, 'a', 'b'})
	if got := r.Text(5); len(got) != 0 {
		t.Errorf("Text of another form: %x", got)
	}
	refused(t, "Text of another form", r, api.ErrForm)
	r = Read([]byte{255, 255, 255, 255, 255, 255, 255, 255, 255, 'a'})
	if got := r.Text(math.MaxInt); len(got) != 0 {
		t.Errorf("Text of 2^64 - 1 bytes: %x", got)
	}
	refused(t, "Text of 2^64 - 1 bytes", r, api.ErrLong)
}

// P6.3
func TestIDRead(t *testing.T) {
	b := text(70)
	r := Read(b)
	if id := r.ID(); !bytes.Equal(id[:], b[:32]) {
		t.Errorf("the first ID: %x", id)
	}
	left(t, "ID", r, 38)
	if id := r.ID(); !bytes.Equal(id[:], b[32:64]) {
		t.Errorf("the second ID: %x", id)
	}
	if id := r.ID(); id != (api.ID{}) {
		t.Errorf("an ID of six bytes: %x", id)
	}
	refused(t, "an ID of six bytes", r, api.ErrShort)
	for n := range 32 {
		r := Read(b[:n])
		if id := r.ID(); id != (api.ID{}) {
			t.Errorf("an ID of %d bytes: %x", n, id)
		}
		refused(t, "an ID that is cut", r, api.ErrShort)
	}
}

// P6.4
func TestNothingRead(t *testing.T) {
	for _, b := range [][]byte{nil, {}} {
		r := Read(b)
		left(t, "nothing", r, 0)
		if len(r.Raw(0)) != 0 || r.Num(0) != 0 {
			t.Error("nothing of nothing")
		}
		left(t, "nothing of nothing", r, 0)
	}
}

// P6.4: whatever is asked behind an error, it stays the first one.
func TestBehindAnError(t *testing.T) {
	b := append([]byte{253, 5, 0, 2, 'a', 'b'}, make([]byte, 64)...)
	for want, fail := range map[api.Errno]func(*Reader){
		api.ErrShort: func(r *Reader) { r.Raw(100) },
		api.ErrForm:  func(r *Reader) { r.Count(math.MaxUint64) },
		api.ErrLong:  func(r *Reader) { r.Raw(3); r.Count(1) },
	} {
		for i, call := range []func(r *Reader) bool{
			func(r *Reader) bool { return len(r.Raw(0)) == 0 },
			func(r *Reader) bool { return len(r.Raw(1)) == 0 },
			func(r *Reader) bool { return len(r.Raw(-1)) == 0 },
			func(r *Reader) bool { return r.Num(0) == 0 },
			func(r *Reader) bool { return r.Num(8) == 0 },
			func(r *Reader) bool { return r.Count(math.MaxUint64) == 0 },
			func(r *Reader) bool { return r.Count(0) == 0 },
			func(r *Reader) bool { return len(r.Text(math.MaxInt)) == 0 },
			func(r *Reader) bool { return len(r.Text(-1)) == 0 },
			func(r *Reader) bool { return r.ID() == api.ID{} },
			func(r *Reader) bool { return r.End() == want },
		} {
			r := Read(b)
			fail(r)
			refused(t, "the first error", r, want)
			for range 3 {
				if !call(r) {
					t.Errorf("call %d behind %v answers something", i, want)
				}
				refused(t, "behind the first error", r, want)
			}
		}
	}
}

// P6.4: that End tells of bytes that are left is no error of what is read further.
func TestEndAhead(t *testing.T) {
	r := Read([]byte{1, 2})
	left(t, "two bytes", r, 2)
	if r.Num(1) != 1 || r.End() != api.ErrForm || r.Num(1) != 2 {
		t.Error("what is read behind End")
	}
	left(t, "no byte", r, 0)
}

// P6.1 to P6.3: what was written is read.
func TestWrittenIsRead(t *testing.T) {
	d := sample.Dice(3)
	for range 300 {
		var w Writer
		var reads []func(r *Reader) bool
		for range d.Below(30) {
			switch d.Below(4) {
			case 0:
				n, size := uint64(d.Next())*uint64(d.Next()), d.Below(9)
				w.Put(size, n)
				reads = append(reads, func(r *Reader) bool { return r.Num(size) == n&(1<<(8*size)-1) })
			case 1:
				n := counts[d.Below(len(counts))]
				w.Count(n)
				reads = append(reads, func(r *Reader) bool { return r.Count(n) == n })
			case 2:
				b := text(d.Below(40))
				w.Text(b)
				reads = append(reads, func(r *Reader) bool { return bytes.Equal(r.Text(len(b)), b) })
			case 3:
				id := api.ID(text(32 + d.Below(9))[:32])
				w.Raw(id[:9], id[9:])
				reads = append(reads, func(r *Reader) bool { return r.ID() == id })
			}
		}
		r := Read(w.Bytes())
		for _, read := range reads {
			if !read(r) {
				t.Fatalf("%x is read as something else", w.Bytes())
			}
		}
		left(t, "all that was written", r, 0)
	}
}

// P1 and P6.4: any bytes, any calls: an error is there as soon as a call answers nothing for something, and stays.
func TestAnyCalls(t *testing.T) {
	d := sample.Dice(11)
	odd := []int{math.MinInt, -1, 0, 1, 2, 3, 8, 9, 40, math.MaxInt}
	for range 3000 {
		b := text(d.Below(60))
		for i := range b {
			if d.Below(3) == 0 {
				b[i] = byte(250 + d.Below(6))
			}
		}
		r := Read(b)
		for range 12 {
			err, rest := r.Err(), r.Left()
			n := odd[d.Below(len(odd))]
			var answered int
			switch d.Below(5) {
			case 0:
				answered = len(r.Raw(n))
			case 1:
				answered = int(min(r.Num(n), 1))
			case 2:
				answered = int(min(r.Count(uint64(n)), 1))
			case 3:
				answered = len(r.Text(n))
			case 4:
				if r.ID() != (api.ID{}) {
					answered = 32
				}
			}
			if err != api.OK && r.Err() != err || r.Err() != api.OK && (r.Left() != 0 || answered != 0) || r.Left() > rest || rest-r.Left() < answered && answered > 1 {
				t.Fatalf("%x: %v and %d left, behind a call %v, %d left, %d answered", b, err, rest, r.Err(), r.Left(), answered)
			}
		}
	}
}

// P2: what is written is a copy, and so is what Bytes answers.
func TestWriterMemory(t *testing.T) {
	room := text(64)
	before := bytes.Clone(room)
	numbers := []uint64{1, 2, 3}
	var w Writer
	w.Raw(room[:4], room[4:8])
	w.Text(room[8:10])
	w.Put(1, numbers[:2]...)
	if !bytes.Equal(room, before) || numbers[0] != 1 || numbers[1] != 2 || numbers[2] != 3 {
		t.Error("what is handed in has changed")
	}
	clear(room)
	clear(numbers)
	want := append(append(append(bytes.Clone(before[:8]), 2), before[8:10]...), 1, 2)
	written(&w, t, "what was handed in is changed", want)
	first := w.Bytes()
	wide := first[:cap(first)]
	for i := range wide {
		wide[i] = 0xee
	}
	written(&w, t, "an answer is changed", want)
	first = w.Bytes()
	second := w.Bytes()
	w.Put(1, 5)
	_ = append(first, 9, 9)
	written(&w, t, "something is put behind an answer", append(bytes.Clone(want), 5))
	if !bytes.Equal(first, want) || !bytes.Equal(second, want) {
		t.Error("an answer has changed")
	}
}

// P2: what is read is a copy, and so is what Raw and Text answer.
func TestReaderMemory(t *testing.T) {
	room := append([]byte{1, 2, 3, 4, 2, 'a', 'b'}, text(40)...)
	before := bytes.Clone(room)
	r := Read(room[:40])
	for i := range room {
		room[i]++
	}
	raw := r.Raw(4)
	kept := bytes.Clone(raw)
	wide := raw[:cap(raw)]
	for i := range wide {
		wide[i] = 0xee
	}
	_ = append(raw[:0], 1, 1, 1, 1, 1, 1)
	said := r.Text(2)
	wide = said[:cap(said)]
	for i := range wide {
		wide[i] = 0xee
	}
	none := r.Raw(0)
	_ = append(none, 7, 7)
	id := r.ID()
	if !bytes.Equal(kept, before[:4]) || !bytes.Equal(id[:], before[7:39]) || r.Num(1) != uint64(before[39]) {
		t.Error("what is read hangs on what was changed")
	}
	for i := range room {
		if room[i] != before[i]+1 {
			t.Error("the reader has changed its bytes")
		}
	}
	r = Read([]byte{2, 5, 6})
	if text := r.Text(2); !bytes.Equal(text, []byte{5, 6}) {
		t.Errorf("Text: %x", text)
	}
}
