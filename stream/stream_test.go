package stream

import (
	"math/rand"
	"strings"
	"testing"

	"dobby/api"
	"dobby/decode"
	"dobby/module"
)

const front = "\x00asm\x01\x00\x00\x00"

// someBytes is some module's bytes.
func someBytes(r *rand.Rand) string {
	pick := func(l ...string) string { return l[r.Intn(len(l))] }
	custom := func() string {
		return pick("", "", "\x00\x03\x01ab", "\x00\x85\x00\x04\xf0\x9d\x84\x9e", "\x00\x01\x00")
	}
	s := front + custom()
	s += pick("", "\x01\x04\x01\x60\x00\x00", "\x01\x07\x01\x60\x02\x7f\x7e\x01\x70", "\x01\x01\x00") + custom()
	s += pick("", "\x02\x08\x01\x01m\x01n\x00\xac\x02", "\x02\x08\x01\x00\x02\xc3\xa9\x03\x7f\x01")
	funcs, data := r.Intn(2) == 0, r.Intn(2) == 0
	if funcs {
		s += "\x03\x03\x02\x00\x05"
	}
	s += custom() + pick("", "\x04\x04\x01\x70\x00\x00") + pick("", "\x05\x04\x01\x01\x01\x02")
	if data {
		s += pick("", "\x06\x07\x01\x7f\x00\xfc\x09\x00\x0b")
	} else {
		s += pick("", "\x06\x08\x01\x7f\x00\x41\xff\xff\x00\x0b")
	}
	s += pick("", "\x08\x01\x00", "\x08\x85\x00\x80\x80\x80\x80\x00") + pick("", "\x09\x07\x01\x05\x70\x01\xd2\x07\x0b")
	if data {
		s += "\x0c\x01\x01"
	}
	if funcs {
		s += pick("\x0a\x07\x02\x02\x00\x0b\x02\x00\x0b", "\x0a\x0d\x02\x08\x01\x03\x7f\x04\x40\x05\x0b\x0b\x02\x00\x0b")
	}
	if data {
		s += "\x0b\x05\x01\x01\x02xy" + custom()
	}
	return s
}

// behind is how many bytes stand behind the last whole section.
func behind(b string) int {
	d := decode.New()
	for {
		n, e := d.Take([]byte(b))
		if e != api.OK {
			return len(b)
		}
		b = b[n:]
	}
}

// hold feeds b in parts, and holds what is told after each against Decode.
func hold(t *testing.T, r *rand.Rand, b string, most int) {
	t.Helper()
	s := New()
	for at := 0; at < len(b); {
		n := min(r.Intn(most+1), len(b)-at)
		part := []byte(b[at : at+n])
		place, e := s.Feed(part)
		for i := range part {
			part[i] = 0xee
		}
		at += n
		_, wantPlace, want := decode.Decode([]byte(b[:at]))
		kept := behind(b[:at])
		if want != api.ErrMalformed {
			wantPlace, want = 0, api.OK
		} else {
			kept = 0
		}
		if place != wantPlace || e != want {
			t.Fatalf("P15.1: %x fed: %d %d, not %d %d", b[:at], place, e, wantPlace, want)
		}
		if s.Kept() != kept {
			t.Fatalf("P15.3: %x fed: %d kept, not %d", b[:at], s.Kept(), kept)
		}
	}
	for range 2 {
		wantM, wantN, want := decode.Decode([]byte(b))
		m, n, e := s.Close()
		if !m.Same(wantM) || n != wantN || e != want {
			t.Fatalf("P15.2: %x closed: %d %d, not %d %d", b, n, e, wantN, want)
		}
		if place, e := s.Feed([]byte("\x00")); place != 0 || e != api.ErrClosed || s.Kept() != 0 {
			t.Fatalf("P15.1: %x closed, and fed: %d %d, %d kept", b, place, e, s.Kept())
		}
	}
}

func TestInParts(t *testing.T) {
	r := rand.New(rand.NewSource(1))
	for range 1500 {
		b := someBytes(r)
		if _, _, e := decode.Decode([]byte(b)); e != api.OK {
			t.Fatalf("%x is no module: %d", b, e)
		}
		hold(t, r, b, []int{1, 2, 7, 200}[r.Intn(4)])
		c := []byte(b)
		c[r.Intn(len(c))] = []byte{0, 1, 11, 0x40, 0x60, 0x7f, 0x80, 0xff}[r.Intn(8)]
		hold(t, r, string(c[:1+r.Intn(len(c))]), []int{1, 2, 7, 200}[r.Intn(4)])
	}
}

func TestExample(t *testing.T) {
	s := New()
	for i := range 8 {
		if n, e := s.Feed([]byte{front[i]}); n != 0 || e != api.OK || s.Kept() != (i+1)%8 {
			t.Errorf("P15.1: byte %d: %d %d, %d kept", i, n, e, s.Kept())
		}
	}
	if n, e := s.Feed([]byte{1}); n != 0 || e != api.OK || s.Kept() != 1 {
		t.Errorf("P15.3: %d %d, %d kept", n, e, s.Kept())
	}
	if m, n, e := s.Close(); n != 9 || e != api.ErrTruncated || !m.Same(module.Module{}) {
		t.Errorf("P15.2: %d %d", n, e)
	}
}

func TestWrongStays(t *testing.T) {
	s := New()
	s.Feed([]byte(front + "\x01\x01\x00"))
	for _, part := range []string{"\x01", "\x00", "", front, "\xff"} {
		if n, e := s.Feed([]byte(part)); n != 11 || e != api.ErrMalformed || s.Kept() != 0 {
			t.Errorf("P15.1: %x: %d %d, %d kept", part, n, e, s.Kept())
		}
	}
	for range 2 {
		if m, n, e := s.Close(); n != 11 || e != api.ErrMalformed || !m.Same(module.Module{}) {
			t.Errorf("P15.2: %d %d", n, e)
		}
	}
	if n, e := s.Feed(nil); n != 0 || e != api.ErrClosed {
		t.Errorf("P15.1: closed ahead of all: %d %d", n, e)
	}
}

func TestNothingCame(t *testing.T) {
	s := New()
	if n, e := s.Feed(nil); n != 0 || e != api.OK || s.Kept() != 0 {
		t.Errorf("P15.1: nothing: %d %d %d", n, e, s.Kept())
	}
	if m, n, e := s.Close(); n != 0 || e != api.ErrTruncated || !m.Same(module.Module{}) {
		t.Errorf("P15.2: nothing: %d %d", n, e)
	}
}

// TestToldAgain: what Close told may be changed, and is told again as it was.
func TestToldAgain(t *testing.T) {
	s := New()
	s.Feed([]byte(front + "\x01\x05\x01\x60\x01\x7f\x00\x06\x08\x01\x7f\x00\x0e\x01\x05\x06\x0b"))
	first, _, e := s.Close()
	if e != api.OK {
		t.Fatal(e)
	}
	first.Types[0].Params[0] = 0
	first.Globals[0].Init[0].List[0] = 9
	first.Globals[0].Init[0].X = 9
	if again, n, e := s.Close(); e != api.OK || n != 25 || again.Types[0].Params[0] != 0x7f || again.Globals[0].Init[0].List[0] != 5 || again.Globals[0].Init[0].X != 6 {
		t.Errorf("P15.2: told again: %v %d %d", again, n, e)
	}
}

// TestKeptIsSmall: of many sections none is kept, and of one never more than it has.
func TestKeptIsSmall(t *testing.T) {
	s := New()
	s.Feed([]byte(front))
	one := "\x00\x82\x00\x01x"
	for range 2000 {
		if n, e := s.Feed([]byte(one + one[:2])); n != 0 || e != api.OK || s.Kept() != 2 {
			t.Fatalf("P15.4: %d %d, %d kept", n, e, s.Kept())
		}
		for i := 2; i < len(one); i++ {
			s.Feed([]byte{one[i]})
			if want := (i + 1) % len(one); s.Kept() != want {
				t.Fatalf("P15.4: %d kept, not %d", s.Kept(), want)
			}
		}
	}
	if m, n, e := s.Close(); len(m.Customs) != 4000 || n != 8+4000*len(one) || e != api.OK {
		t.Errorf("P15.4: %d customs, %d %d", len(m.Customs), n, e)
	}
	great := New()
	great.Feed([]byte(front + "\x00\x80\x80\x40\x00"))
	for range 1<<10 - 1 {
		if n, e := great.Feed([]byte(strings.Repeat("x", 1<<10))); n != 0 || e != api.OK {
			t.Fatalf("P15.4: %d %d", n, e)
		}
	}
	if n, e := great.Feed([]byte(strings.Repeat("x", 1<<10-2))); n != 0 || e != api.OK || great.Kept() != 1<<20+3 {
		t.Errorf("P15.4: %d %d, %d kept", n, e, great.Kept())
	}
	if n, e := great.Feed([]byte("x")); n != 0 || e != api.OK || great.Kept() != 0 {
		t.Errorf("P15.4: %d %d, %d kept", n, e, great.Kept())
	}
}
