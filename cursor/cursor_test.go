package cursor

import (
	"math"
	"math/rand"
	"strings"
	"testing"
	"unicode/utf8"

	"dobby/api"
	"dobby/span"
)

func every(byte, int) bool { return true }

// told is what Try tells, and what was read.
func told(b string, limit int, read func(c *Cursor) value) (v value, n int, e api.Errno) {
	n, e = Try([]byte(b), func(c *Cursor) {
		if limit < 0 {
			v = read(c)
			return
		}
		c.Within(limit, func() {
			v = read(c)
			for c.Rest() > 0 { // what stands behind has nothing to do with it
				c.Byte(every)
			}
		})
	})
	return v, n, e
}

type value = interface{}

func TestPlacesAndRests(t *testing.T) {
	n, e := Try([]byte("abcdef"), func(c *Cursor) {
		if c.At() != 0 || c.Rest() != span.Endless || !c.More() {
			t.Errorf("P4.1: at first: %d %d %v", c.At(), c.Rest(), c.More())
		}
		c.Byte(func(x byte, r int) bool {
			if x != 'a' || r != span.Endless || c.At() != 1 {
				t.Errorf("P4.2: Byte: %c %d, at %d", x, r, c.At())
			}
			return true
		})
		c.Within(4, func() {
			if c.Raw(1) != "b" || c.Rest() != 3 {
				t.Errorf("P4.4: rest %d", c.Rest())
			}
			c.Within(2, func() {
				c.Byte(func(x byte, r int) bool {
					if r != 1 {
						t.Errorf("P4.4: Byte: rest %d", r)
					}
					return true
				})
				if !c.More() {
					t.Error("P4.1: a byte is left")
				}
				c.Byte(every)
				if c.More() || c.Rest() != 0 {
					t.Error("P4.1: no byte is left of the limit")
				}
			})
			if c.Rest() != 1 || c.At() != 4 {
				t.Errorf("P4.4: behind a limit: %d %d", c.At(), c.Rest())
			}
			c.Raw(1)
			c.Within(-3, func() {})
			c.Within(9, func() {
				if c.Rest() != 0 {
					t.Error("P4.4: a limit beyond the rest")
				}
			})
		})
		if c.Raw(-2) != "" || c.Rest() != span.Endless || c.Raw(1) != "f" || c.More() {
			t.Error("P4.1: without a limit again")
		}
	})
	if n != 6 || e != api.OK {
		t.Errorf("P4.1: Try: %d %d", n, e)
	}
	if n, e := Try(nil, func(c *Cursor) {}); n != 0 || e != api.OK {
		t.Errorf("P4.1: nothing read: %d %d", n, e)
	}
}

func TestGivesUp(t *testing.T) {
	no := func(byte, int) bool { return false }
	for name, x := range map[string]struct {
		b     string
		do    func(c *Cursor)
		place int
		err   api.Errno
	}{
		"Byte at the end":            {"a", func(c *Cursor) { c.Raw(1); c.Byte(every) }, 1, api.ErrTruncated},
		"Byte at the limit":          {"ab", func(c *Cursor) { c.Within(1, func() { c.Raw(1); c.Byte(every) }) }, 1, api.ErrMalformed},
		"Byte at both":               {"a", func(c *Cursor) { c.Within(1, func() { c.Raw(1); c.Byte(every) }) }, 1, api.ErrMalformed},
		"Byte at the end in a limit": {"a", func(c *Cursor) { c.Within(2, func() { c.Raw(1); c.Byte(every) }) }, 1, api.ErrTruncated},
		"Byte that may not be":       {"ab", func(c *Cursor) { c.Raw(1); c.Byte(no) }, 1, api.ErrMalformed},
		"Byte with more read":        {"abc", func(c *Cursor) { c.Byte(func(byte, int) bool { c.Raw(2); return false }) }, 0, api.ErrMalformed},
		"Raw at the end":             {"abc", func(c *Cursor) { c.Raw(4) }, 3, api.ErrTruncated},
		"Raw twice":                  {"abc", func(c *Cursor) { c.Raw(1); c.Raw(3) }, 3, api.ErrTruncated},
		"Raw twice in a limit":       {"abc", func(c *Cursor) { c.Within(2, func() { c.Raw(1); c.Raw(2) }) }, 2, api.ErrMalformed},
		"Raw of very many":           {"abc", func(c *Cursor) { c.Raw(math.MaxInt) }, 3, api.ErrTruncated},
		"Raw beyond the limit":       {"abc", func(c *Cursor) { c.Within(2, func() { c.Raw(3) }) }, 2, api.ErrMalformed},
		"Raw beyond both":            {"abc", func(c *Cursor) { c.Within(3, func() { c.Raw(4) }) }, 3, api.ErrMalformed},
		"Raw at the end in a limit":  {"abc", func(c *Cursor) { c.Within(4, func() { c.Raw(5) }) }, 3, api.ErrTruncated},
		"Within with a rest":         {"abc", func(c *Cursor) { c.Within(2, func() { c.Raw(1) }) }, 1, api.ErrMalformed},
		"Within without bytes":       {"", func(c *Cursor) { c.Within(2, func() {}) }, 0, api.ErrMalformed},
		"Uint at the limit":          {"\x00", func(c *Cursor) { c.Within(0, func() { c.Uint(nil) }) }, 0, api.ErrMalformed},
		"Uint of nothing":            {"\x00", func(c *Cursor) { c.Uint(func(int) []span.Range { return nil }) }, 0, api.ErrMalformed},
		"Sint at the end":            {"", func(c *Cursor) { c.Sint(32, span.Span{}) }, 0, api.ErrTruncated},
		"Name at the end":            {"\x03ab", func(c *Cursor) { c.Name(span.Span{Max: span.Endless}) }, 3, api.ErrTruncated},
		"Name with a bound":          {"\x01a", func(c *Cursor) { c.Name(span.Span{Max: 9}) }, 0, api.ErrMalformed},
	} {
		back := false
		place, e := Try([]byte(x.b), func(c *Cursor) { x.do(c); back = true })
		if place != x.place || e != x.err || back {
			t.Errorf("P4.2: %s: %d %d, back %v", name, place, e, back)
		}
	}
}

// TestForGood: it does not go on, even if what gave up was taken up within Try.
func TestForGood(t *testing.T) {
	tries := map[string]func(c *Cursor){
		"Byte":   func(c *Cursor) { c.Byte(every) },
		"Raw":    func(c *Cursor) { c.Raw(0) },
		"Name":   func(c *Cursor) { c.Name(span.Span{Max: span.Endless}) },
		"Sint":   func(c *Cursor) { c.Sint(7, span.Span{Max: span.Endless}) },
		"Uint":   func(c *Cursor) { c.Uint(func(int) []span.Range { return []span.Range{{Low: 0, High: 9}} }) },
		"Within": func(c *Cursor) { c.Within(0, func() {}) },
	}
	for name, again := range tries {
		back := false
		place, e := Try([]byte("\x00\x00\x00"), func(c *Cursor) {
			func() {
				defer func() { recover() }()
				c.Raw(1)
				c.Byte(func(byte, int) bool { return false })
			}()
			func() {
				defer func() { recover() }()
				again(c)
				back = true
			}()
		})
		if place != 1 || e != api.ErrMalformed || back {
			t.Errorf("P4.1: %s: %d %d, back %v", name, place, e, back)
		}
	}
}

// TestOthersPanic: a cursor takes its own giving up alone.
func TestOthersPanic(t *testing.T) {
	defer func() {
		if x := recover(); x != "another" {
			t.Errorf("P4.1: another panic: %v", x)
		}
	}()
	place, e := Try([]byte("ab"), func(outer *Cursor) {
		Try([]byte("abcd"), func(inner *Cursor) {
			inner.Raw(3)
			outer.Raw(3)
		})
		t.Error("P4.1: the inner Try took what was not its own")
	})
	if place != 2 || e != api.ErrTruncated {
		t.Errorf("P4.1: the outer cursor: %d %d", place, e)
	}
	Try(nil, func(c *Cursor) { panic("another") })
}

// stands puts v in just n bytes, without a sign or with it.
func stands(v int64, n int) string {
	b := make([]byte, n)
	for i := range b {
		b[i] = byte(v) | 128
		v >>= 7
	}
	b[n-1] &= 127
	return string(b)
}

// uints goes through all numbers that want allows, in all ways, within so many bytes.
func uints(limit int, want Want, each func(v uint32, stands string)) {
	for n := 1; n <= min(5, limit); n++ {
		for _, x := range want(limit - n) {
			for v := x.Low; v <= x.High && v < 1<<32; v++ {
				if s := stands(int64(v), n); n*7 >= 35 || v < 1<<(7*n) {
					each(uint32(v), s)
				}
			}
		}
	}
}

// place is how long the longest front of b is that one of l has, and whether one of l is such a front.
func place(b string, l map[string]bool) (int, bool) {
	longest := 0
	for s := range l {
		k := 0
		for k < len(s) && k < len(b) && s[k] == b[k] {
			k++
		}
		if k == len(s) {
			return k, true
		}
		longest = max(longest, k)
	}
	return longest, false
}

func someBytes(r *rand.Rand, n int) string {
	some := []byte{0, 1, 2, 3, 0x0f, 0x10, 0x3f, 0x40, 0x41, 0x7f, 0x80, 0x80, 0x81, 0x82, 0x83, 0xff}
	b := make([]byte, n)
	for i := range b {
		b[i] = some[r.Intn(len(some))]
	}
	return string(b)
}

// hold holds what was told against all that could come out.
func hold(t *testing.T, what, b string, n int, e api.Errno, l map[string]bool) {
	t.Helper()
	p, whole := place(b, l)
	switch {
	case whole:
		if e == api.ErrMalformed || e == api.OK && n < p {
			t.Fatalf("%s of %x: %d %d, but %d bytes are one", what, b, n, e, p)
		}
	case p == len(b):
		if n != p || e != api.ErrTruncated {
			t.Fatalf("%s of %x: %d %d, but bytes lack", what, b, n, e)
		}
	default:
		if n != p || e != api.ErrMalformed {
			t.Fatalf("%s of %x: %d %d, but it is wrong at %d", what, b, n, e, p)
		}
	}
}

func TestUint(t *testing.T) {
	r := rand.New(rand.NewSource(1))
	for range 1500 {
		rows := make([][]span.Range, 10)
		for i := range rows {
			for range r.Intn(3) {
				low := []uint64{0, 1, 2, 120, 128, 255, 300, 16384, 1<<21 - 2, 1 << 28, 1<<32 - 3}[r.Intn(11)]
				rows[i] = append(rows[i], span.Range{Low: low, High: low + uint64(r.Intn(4))})
			}
		}
		limit := 1 + r.Intn(8)
		want := func(rest int) []span.Range { return rows[rest] }
		could := map[string]bool{}
		uints(limit, want, func(v uint32, s string) { could[s] = true })
		for range 10 {
			b := someBytes(r, r.Intn(limit+1))
			_, n, e := told(b, limit, func(c *Cursor) value { return c.Uint(want) })
			hold(t, "P4.3: Uint", b, n, e, could)
		}
		uints(limit, want, func(v uint32, s string) {
			b := s + strings.Repeat("\xff", limit-len(s))
			got, n, e := told(b, limit, func(c *Cursor) value { return c.Uint(want) })
			if got != v || n != limit || e != api.OK {
				t.Fatalf("P4.3: Uint of %x: %v %d %d, not %d", b, got, n, e, v)
			}
			for k := range s {
				if _, n, e := told(b[:k], limit, func(c *Cursor) value { return c.Uint(want) }); n != k || e != api.ErrTruncated {
					t.Fatalf("P4.3: Uint of %x: %d %d", b[:k], n, e)
				}
			}
		})
	}
}

func TestUintExamples(t *testing.T) {
	items := func(r int) []span.Range { return []span.Range{span.Counts(span.Span{Min: 1, Max: 1}, span.Span{}, r)} }
	all := func(int) []span.Range { return []span.Range{{Low: 0, High: 1<<32 - 1}} }
	endless := func(r int) []span.Range { return []span.Range{{Low: uint64(span.Endless - r), High: 0}} }
	for _, x := range []struct {
		b     string
		limit int
		want  Want
		v     uint32
		n     int
		err   api.Errno
	}{
		{"\x02ab", 3, items, 2, 3, api.OK},
		{"\x81\x00a", 3, items, 1, 3, api.OK},
		{"\x83\x00a", 3, items, 0, 0, api.ErrMalformed},
		{"\xff\xff\xff\xff\x0f", -1, all, 1<<32 - 1, 5, api.OK},
		{"\xff\xff\xff\xff\x10", -1, all, 0, 4, api.ErrMalformed},
		{"\x80\x80\x80\x80\x80\x00", -1, all, 0, 4, api.ErrMalformed},
		{"\x80\x80\x80\x80", -1, all, 0, 4, api.ErrTruncated},
		{"\x80\x80\x80\x80\x00", 5, all, 0, 5, api.OK},
		{"\x80\x00", -1, endless, 0, 2, api.OK},
		{"\x80\x80\x80\x80\x00", 4, all, 0, 3, api.ErrMalformed},
	} {
		v, n, e := told(x.b, x.limit, func(c *Cursor) value { return c.Uint(x.want) })
		if e == api.OK && v != x.v || n != x.n || e != x.err {
			t.Errorf("P4.3: Uint of %x within %d: %v %d %d", x.b, x.limit, v, n, e)
		}
	}
}

func TestSint(t *testing.T) {
	r := rand.New(rand.NewSource(1))
	for i := range 240 {
		bits := []int{-3, 1, 2, 3, 5, 6, 7, 8, 9, 11, 13, 14}[i%12]
		width := max(bits, 1)
		behind := span.Span{Min: r.Intn(3)}
		behind.Max = behind.Min + r.Intn(3)
		if r.Intn(4) == 0 {
			behind.Max = span.Endless
		}
		limit := 1 + r.Intn(5)
		sint := func(c *Cursor) value { return c.Sint(bits, behind) }
		could := map[string]bool{}
		for n := 1; n <= min((width+6)/7, limit); n++ {
			if !behind.Has(limit - n) {
				continue
			}
			lowest := int64(-1) << (min(width, 7*n) - 1)
			for v := lowest; v < -lowest; v++ {
				s := stands(v, n)
				could[s] = true
				b := s + strings.Repeat("\xff", limit-n)
				if got, m, e := told(b, limit, sint); got != v || m != limit || e != api.OK {
					t.Fatalf("P4.3: Sint(%d, %v) of %x: %v %d %d, not %d", bits, behind, b, got, m, e, v)
				}
			}
		}
		for range 50 {
			b := someBytes(r, r.Intn(limit+1))
			_, n, e := told(b, limit, sint)
			hold(t, "P4.3: Sint", b, n, e, could)
		}
	}
}

func TestSintExamples(t *testing.T) {
	end := span.Span{Max: span.Endless}
	for _, x := range []struct {
		b      string
		limit  int
		bits   int
		behind span.Span
		v      int64
		n      int
		err    api.Errno
	}{
		{"\x80\x80\x80\x80\x80\x80\x80\x80\x80\x7f", -1, 64, end, math.MinInt64, 10, api.OK},
		{"\xff\xff\xff\xff\xff\xff\xff\xff\xff\x00", -1, 64, end, math.MaxInt64, 10, api.OK},
		{"\xff\xff\xff\xff\xff\xff\xff\xff\xff\x01", -1, 64, end, 0, 9, api.ErrMalformed},
		{"\x80\x80\x80\x80\x78", -1, 32, end, math.MinInt32, 5, api.OK},
		{"\xff\xff\xff\xff\x07", -1, 32, end, math.MaxInt32, 5, api.OK},
		{"\xff\xff\xff\xff\x08", -1, 32, end, 0, 4, api.ErrMalformed},
		{"\xff\xff\xff\xff\xff", -1, 32, end, 0, 4, api.ErrMalformed},
		{"\xff\xff\xff\xff\x0f", -1, 33, end, 1<<32 - 1, 5, api.OK},
		{"\x80\x80", -1, 32, end, 0, 2, api.ErrTruncated},
		{"\x80\x00ab", 4, 32, span.Span{Min: 2, Max: 2}, 0, 4, api.OK},
		{"\x80\x80ab", 4, 32, span.Span{Min: 2, Max: 2}, 0, 1, api.ErrMalformed},
		{"\x00abc", 4, 32, span.Span{Min: 2, Max: 2}, 0, 0, api.ErrMalformed},
		{"\x00", -1, 99, end, 0, 1, api.OK},
		{"\xff\xff\xff\xff\xff\xff\xff\xff\xff\x01", -1, 99, end, 0, 9, api.ErrMalformed},
		{"\x80\x80\x80\x80\x80\x80\x80\x80\x80\x7f", -1, 65, end, math.MinInt64, 10, api.OK},
		{"\x01", -1, -7, end, 0, 0, api.ErrMalformed},
	} {
		v, n, e := told(x.b, x.limit, func(c *Cursor) value { return c.Sint(x.bits, x.behind) })
		if e == api.OK && v != x.v || n != x.n || e != x.err {
			t.Errorf("P4.3: Sint(%d) of %x within %d: %v %d %d", x.bits, x.b, x.limit, v, n, e)
		}
	}
}

// text: is s the front of a text of n bytes? By trying all that could end its last sign.
func text(s string, n int) bool {
	for _, end := range []string{"", "\x80", "\x80\x80", "\x80\x80\x80", "\xa0", "\xa0\x80", "\x90\x80\x80"} {
		if utf8.ValidString(s+end) && len(s+end) <= n {
			return true
		}
	}
	return false
}

func TestName(t *testing.T) {
	r := rand.New(rand.NewSource(1))
	some := []byte{'a', 0x7f, 0x80, 0x8f, 0x90, 0x9f, 0xa0, 0xbf, 0xc1, 0xc2, 0xc3, 0xe0, 0xe2, 0xed, 0xf0, 0xf3, 0xf4, 0xf5}
	for range 30000 {
		behind := span.Span{Min: r.Intn(2)}
		behind.Max = behind.Min + r.Intn(2)
		limit := 1 + r.Intn(7)
		n := r.Intn(limit + 1)
		count := stands(int64(n), 1+r.Intn(2))
		b := make([]byte, r.Intn(limit))
		for i := range b {
			b[i] = some[r.Intn(len(some))]
		}
		s := count + string(b)
		got, at, e := told(s, limit, func(c *Cursor) value { return c.Name(behind) })
		wantAt, want := len(count)+n, api.OK
		for k := min(n, len(b)); k >= 0; k-- {
			if !text(string(b[:k]), n) {
				wantAt, want = len(count)+k-1, api.ErrMalformed
			}
		}
		if want == api.OK && len(b) < n {
			wantAt, want = len(s), api.ErrTruncated
		}
		if want == api.OK && limit > len(s) {
			wantAt, want = len(s), api.ErrTruncated // what stands behind, told asks for
		}
		if !behind.Has(limit - len(count) - n) {
			continue // TestUint and TestNameCount hold these
		}
		if want == api.OK {
			wantAt = limit
		}
		if at != wantAt || e != want || e == api.OK && got != string(b[:n]) {
			t.Fatalf("P4.3: Name of %x within %d: %q %d %d, not %d %d", s, limit, got, at, e, wantAt, want)
		}
	}
}

func TestNameCount(t *testing.T) {
	for limit := range 9 {
		for low := range 4 {
			for high := low; high < 5; high++ {
				could := map[string]bool{}
				for n := range limit {
					for k := 1; k <= 5; k++ {
						if rest := limit - n - k; rest >= low && rest <= high {
							could[stands(int64(n), k)] = true
						}
					}
				}
				for x := range 256 {
					for y := range 256 {
						if y > 9 && y < 127 || y > 130 {
							continue
						}
						b := string([]byte{byte(x), byte(y)})[:min(2, limit)]
						_, n, e := told(b, limit, func(c *Cursor) value { return c.Name(span.Span{Min: low, Max: high}) })
						if p, whole := place(b, could); !whole && (n != p || (e == api.ErrTruncated) != (p == len(b) && limit > 0)) {
							t.Fatalf("P4.3: Name of %x within %d, behind %d to %d: %d %d, not %d", b, limit, low, high, n, e, p)
						}
					}
				}
			}
		}
	}
}

// TestNothingBehindMatters: where it gives up as wrong, it does with all that may follow.
func TestNothingBehindMatters(t *testing.T) {
	r := rand.New(rand.NewSource(3))
	for range 20000 {
		limit := 1 + r.Intn(7)
		b := someBytes(r, r.Intn(limit+1))
		read := []func(c *Cursor) value{
			func(c *Cursor) value { return c.Name(span.Span{Max: 1}) },
			func(c *Cursor) value { return c.Sint(20, span.Span{Max: 1}) },
			func(c *Cursor) value {
				return c.Uint(func(r int) []span.Range { return []span.Range{{Low: uint64(r), High: uint64(2 * r)}} })
			},
		}[r.Intn(3)]
		_, n, e := told(b, limit, read)
		if e != api.ErrMalformed {
			continue
		}
		for _, front := range []string{b[:n], b[:min(n+1, len(b))] + someBytes(r, 4)} {
			_, m, f := told(front, limit, read)
			if len(front) > n && (m != n || f != e) || len(front) <= n && limit > n && (m != n || f != api.ErrTruncated) {
				t.Fatalf("P4.5: %x is wrong at %d, but %x at %d (%d)", b, n, front, m, f)
			}
		}
	}
}
