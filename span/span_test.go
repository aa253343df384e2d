package span

import (
	"math"
	"math/rand"
	"testing"
)

// spans are all with Min and Max up to most, and those without a bound.
func spans(least, most int) []Span {
	var l []Span
	for low := least; low <= most; low++ {
		for high := low; high <= most; high++ {
			l = append(l, Span{low, high})
		}
		l = append(l, Span{low, Endless})
	}
	return l
}

// made: may n items and behind make r bytes? By sets of sums, up to r.
func made(item, behind Span, n, r int) bool {
	sums := map[int]bool{0: true}
	add := func(s Span) {
		next := map[int]bool{}
		for a := range sums {
			for x := s.Min; x <= r-a && (s.Max >= Endless || x <= s.Max); x++ {
				next[a+x] = true
			}
		}
		sums = next
	}
	for range n {
		add(item)
	}
	add(behind)
	return sums[r]
}

func TestHasAndTimes(t *testing.T) {
	for _, s := range spans(0, 4) {
		for n := -2; n < 12; n++ {
			if s.Has(n) != (n >= s.Min && (s.Max == Endless || n <= s.Max)) {
				t.Fatalf("P2.1: %v.Has(%d)", s, n)
			}
			want := Span{max(n, 0) * s.Min, max(n, 0) * s.Max}
			if s.Max == Endless {
				want.Max = Endless
			}
			if n <= 0 {
				want = Span{}
			}
			if got := s.Times(n); got != want {
				t.Fatalf("P2.1: %v.Times(%d) = %v", s, n, got)
			}
		}
		for _, o := range spans(0, 4) {
			want := Span{s.Min + o.Min, s.Max + o.Max}
			if s.Max == Endless || o.Max == Endless {
				want.Max = Endless
			}
			if got := s.And(o); got != want {
				t.Fatalf("P2.1: %v.And(%v) = %v", s, o, got)
			}
		}
	}
}

func TestGreatSpans(t *testing.T) {
	const great = 1 << 38
	endless := Span{3, math.MaxInt}
	if !endless.Has(Endless) || !endless.Has(math.MaxInt) || endless.Has(2) || (Span{0, great}).Has(Endless) || (Span{0, great}).Has(math.MinInt) {
		t.Error("P2.1: Has of great numbers")
	}
	if got := endless.And(Span{1, 1}); got != (Span{4, Endless}) {
		t.Errorf("P2.1: And without a bound: %v", got)
	}
	if got := (Span{great, great}).And(Span{great, great}); got != (Span{2 * great, 2 * great}) {
		t.Errorf("P2.1: And of great spans: %v", got)
	}
	for n, want := range map[int]Span{1: {great, Endless}, 3: {3 * great, Endless}, 4: {Endless, Endless}, 5: {Endless, Endless}, math.MaxInt: {Endless, Endless}, math.MinInt: {}, 0: {}} {
		if got := (Span{great, Endless}).Times(n); got != want {
			t.Errorf("P2.1: Times(%d) = %v", n, got)
		}
	}
	if got := (Span{1, 3}).Times(Endless / 3); got != (Span{Endless / 3, Endless - 1}) {
		t.Errorf("P2.1: Times just below the bound: %v", got)
	}
	if got := (Span{1, 1}).Times(Endless + 1); got != (Span{Endless, Endless}) {
		t.Errorf("P2.1: Times just above the bound: %v", got)
	}
	if got := (Span{0, 5}).Times(math.MaxInt); got != (Span{0, Endless}) {
		t.Errorf("P2.1: Times of no least: %v", got)
	}
}

func TestCounts(t *testing.T) {
	for _, item := range spans(1, 4) {
		for _, behind := range spans(0, 4) {
			for r := -1; r <= 12; r++ {
				got := Counts(item, behind, r)
				some := false
				for n := range 14 {
					in := uint64(n) >= got.Low && uint64(n) <= got.High
					some = some || in
					if in != made(item, behind, n, r) {
						t.Fatalf("P2.2: Counts(%v, %v, %d) = %v: %d", item, behind, r, got, n)
					}
				}
				if !some && got != (Range{1, 0}) || got.High > 13 && got.High != 1<<32-1 {
					t.Fatalf("P2.2: Counts(%v, %v, %d) = %v", item, behind, r, got)
				}
			}
		}
	}
}

func TestSizes(t *testing.T) {
	for _, own := range spans(0, 4) {
		for _, behind := range spans(0, 4) {
			for r := -1; r <= 12; r++ {
				got := Sizes(own, behind, r)
				some := false
				for v := range 14 {
					in := uint64(v) >= got.Low && uint64(v) <= got.High
					some = some || in
					if in != (own.Has(v) && r-v >= 0 && behind.Has(r-v)) {
						t.Fatalf("P2.2: Sizes(%v, %v, %d) = %v: %d", own, behind, r, got, v)
					}
				}
				if !some && got != (Range{1, 0}) {
					t.Fatalf("P2.2: Sizes(%v, %v, %d) = %v", own, behind, r, got)
				}
			}
		}
	}
}

func TestWithoutBound(t *testing.T) {
	none, all := Range{1, 0}, Range{0, 1<<32 - 1}
	digits, any := Span{1, 5}, Span{2, Endless}
	for _, x := range []struct {
		item, behind  Span
		r             int
		counts, sizes Range
	}{
		{digits, Span{}, Endless, none, none},
		{digits, any, Endless, all, Range{1, 5}},
		{any, Span{}, Endless, Range{1, 1<<32 - 1}, none},
		{any, any, Endless, all, Range{2, 1<<32 - 1}},
		{Span{1, 1}, Span{0, 7}, 1<<32 + 5, Range{1<<32 - 2, 1<<32 - 1}, none},
		{Span{1, 1}, Span{0, 5}, 1<<32 + 5, none, none},
		{Span{3, Endless}, Span{}, 1<<32 - 1, Range{1, 1431655765}, Range{1<<32 - 1, 1<<32 - 1}},
		{Span{31, 31}, Span{1 << 38, 1 << 38}, 1<<38 + 31*(1<<32-1), Range{1<<32 - 1, 1<<32 - 1}, none},
	} {
		if got := Counts(x.item, x.behind, x.r); got != x.counts {
			t.Errorf("P2.2: Counts(%v, %v, %d) = %v, not %v", x.item, x.behind, x.r, got, x.counts)
		}
		if got := Sizes(x.item, x.behind, x.r); got != x.sizes {
			t.Errorf("P2.2: Sizes(%v, %v, %d) = %v, not %v", x.item, x.behind, x.r, got, x.sizes)
		}
	}
}

// fits goes through all numbers below limit.
func fits(l []Range, low uint64, shift, left, bits int, limit uint64) bool {
	for v := range limit {
		if v>>bits != 0 || v&(1<<shift-1) != low || left < 9 && v>>shift >= 1<<(7*left) {
			continue
		}
		for _, x := range l {
			if x.Low <= v && v <= x.High {
				return true
			}
		}
	}
	return false
}

func TestFits(t *testing.T) {
	r := rand.New(rand.NewSource(1))
	for range 20000 {
		shift, left, bits := r.Intn(11), r.Intn(3), r.Intn(11)
		low := r.Uint64() & (1<<shift - 1)
		var l []Range
		for range r.Intn(4) {
			from := uint64(r.Intn(600))
			l = append(l, Range{from, from + uint64(r.Intn(20)) - 1})
		}
		if got := Fits(l, low, shift, left, bits); got != fits(l, low, shift, left, bits, 1024) {
			t.Fatalf("P2.3: Fits(%v, %d, %d, %d, %d) = %v", l, low, shift, left, bits, got)
		}
	}
}

func TestFitsGreat(t *testing.T) {
	whole := []Range{{0, math.MaxUint64}}
	for _, x := range []struct {
		l                 []Range
		low               uint64
		shift, left, bits int
		want              bool
	}{
		{[]Range{{300, 310}}, 44, 7, 1, 32, true},
		{[]Range{{300, 310}}, 44, 7, 0, 32, false},
		{[]Range{{300, 310}}, 44, 7, 1, 8, false},
		{[]Range{{1, 0}, {5, 5}}, 5, 7, 0, 3, true},
		{[]Range{{1, 0}}, 0, 0, 9, 63, false},
		{nil, 0, 0, 9, 63, false},
		{whole, 0, 0, 0, 0, true},
		{[]Range{{1, math.MaxUint64}}, 0, 0, 9, 0, false},
		{[]Range{{1<<63 - 1, math.MaxUint64}}, 1<<62 - 1, 62, 1, 63, true},
		{[]Range{{1<<63 - 1, math.MaxUint64}}, 1<<62 - 1, 62, 0, 63, false},
		{[]Range{{1<<63 - 1, math.MaxUint64}}, 1<<63 - 1, 63, 0, 63, true},
		{[]Range{{1<<63 - 1, math.MaxUint64}}, 0, 63, 9, 63, false},
		{[]Range{{1<<63 - 1, 1<<63 - 1}}, 0, 0, 9, 63, true},
		{[]Range{{1 << 63, math.MaxUint64}}, 0, 0, 9, 63, false},
		{[]Range{{math.MaxUint64, math.MaxUint64}}, 5, 62, 9, 63, false},
		{[]Range{{1 << 31, 1 << 31}}, 0, 28, 1, 32, true},
		{[]Range{{1 << 32, 1 << 32}}, 0, 28, 1, 32, false},
	} {
		if got := Fits(x.l, x.low, x.shift, x.left, x.bits); got != x.want {
			t.Errorf("P2.3: Fits(%v, %d, %d, %d, %d) = %v", x.l, x.low, x.shift, x.left, x.bits, got)
		}
	}
}

// TestFollows: a count comes out just if Counts tells it, also digit by digit.
func TestFollows(t *testing.T) {
	item, behind := Span{2, 3}, Span{1, 2}
	for r := range 400 {
		l := []Range{Counts(item, behind, r)}
		for n := range uint64(250) {
			comes := item.Times(int(n)).And(behind).Has(r)
			if Fits(l, n, 63, 0, 32) != comes || comes && !Fits(l, n&127, 7, 1, 32) {
				t.Fatalf("P2.4: %d items of %v, and %v, in %d bytes", n, item, behind, r)
			}
		}
	}
}

// TestAnyArguments: nothing is promised of these but an end.
func TestAnyArguments(t *testing.T) {
	odd := []int{math.MinInt, -Endless, -1, 0, 1, 31, Endless, math.MaxInt}
	for _, a := range odd {
		for _, b := range odd {
			for _, c := range odd {
				s, o := Span{a, b}, Span{b, c}
				s.Has(c)
				s.And(o)
				s.Times(c)
				Counts(s, o, c)
				Sizes(s, o, c)
				Fits([]Range{{uint64(a), uint64(b)}, {0, 9}}, uint64(c), a, b, c)
			}
		}
	}
}
