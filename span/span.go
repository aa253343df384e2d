// Package span is layer 2, how many bytes may follow: see shared/doc/02-span.md.
package span

// Endless stands for no bound.
const Endless = 1 << 40

// highest is the greatest number that Counts and Sizes tell of.
const highest = 1<<32 - 1

// Span is all counts of bytes from Min up to Max.
type Span struct {
	Min, Max int
}

// Range is all numbers from Low up to High.
type Range struct {
	Low, High uint64
}

// Has: is n in it?
func (s Span) Has(n int) bool {
	return n >= s.Min && (s.endless() || n <= s.Max)
}

// And is all sums of a count of each.
func (s Span) And(o Span) Span {
	most := Endless
	if !s.endless() && !o.endless() {
		most = min(s.Max+o.Max, Endless)
	}
	return Span{s.Min + o.Min, most}
}

// Times is n such spans, one behind the other.
func (s Span) Times(n int) Span {
	if n <= 0 {
		return Span{}
	}
	return Span{times(s.Min, n), times(s.Max, n)}
}

// Counts is of which counts of items, and behind, r bytes may be made.
func Counts(item, behind Span, r int) Range {
	if r < behind.Min {
		return nothing()
	}
	least := 0
	if !behind.endless() && r > behind.Max { // items must fill what behind can't
		least = 1
		if !item.endless() {
			least = up(r-behind.Max, item.Max)
		}
	}
	return between(least, (r-behind.Min)/max(item.Min, 1))
}

// Sizes is which numbers of own may stand for bytes of r, such that behind has the others.
func Sizes(own, behind Span, r int) Range {
	if r >= Endless {
		if !behind.endless() {
			return nothing()
		}
		return between(own.Min, own.Max)
	}
	least := own.Min
	if !behind.endless() {
		least = max(least, r-behind.Max)
	}
	return between(least, min(own.Max, r-behind.Min))
}

// Fits: may a number of l, below 2^bits, begin with the lowest shift bits low, and have so many digits left?
func Fits(l []Range, low uint64, shift, left, bits int) bool {
	shift, left, bits = within(shift, 63), within(left, 9), within(bits, 63)
	top := uint64(1)<<bits - 1
	rests := uint64(1) << (7 * left)
ranges:
	for _, x := range l {
		high := min(x.High, top)
		rest := uint64(0)
		switch {
		case x.Low > high || low > high:
			continue ranges
		case x.Low > low:
			rest = (x.Low-low-1)>>shift + 1
		}
		// No wrap-round: low and x.Low are below 2^63, and so are steps of 2^shift.
		if rest < rests && low+rest<<shift <= high {
			return true
		}
	}
	return false
}

func (s Span) endless() bool { return s.Max >= Endless }

// times is a times n, 2^40 at most.
func times(a, n int) int {
	if a > 0 && n > Endless/a {
		return Endless
	}
	return a * n
}

// up is a divided by b, rounded up.
func up(a, b int) int {
	b = max(b, 1)
	return (a-1)/b + 1
}

// between is all numbers from low up to high that may be told of.
func between(low, high int) Range {
	low, high = max(low, 0), min(high, highest)
	if low > high {
		return nothing()
	}
	return Range{uint64(low), uint64(high)}
}

// nothing is the range without a number.
func nothing() Range { return Range{1, 0} }

// within is the number from 0 up to high that is nearest to n.
func within(n, high int) int { return min(max(n, 0), high) }
