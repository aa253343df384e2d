package op

import (
	"math"
	"slices"
	"strconv"
	"strings"
	"testing"

	"dobby/leb"
	"dobby/span"
)

// table is the document's: the prefix, the shape, the numbers (base 16), and how many lanes.
const table = `
00 0 00-01 05 0B 0F 1A 1B 45-C4 D1
00 1 02 03 04
00 2 0C 0D 10 20-26 D2
00 3 11
00 4 0E
00 5 28-3E
00 6 3F 40
00 9 41
00 10 42
00 11 43
00 12 44
00 17 D0
00 18 1C
FC 0 0-7
FC 2 9 D F 10 11
FC 3 C E
FC 6 B
FC 7 A
FC 8 8
FD 5 0-B 5C 5D
FD 13 C
FD 14 D
FD 15 15-17 /16
FD 15 18-1A /8
FD 15 1B 1C /4
FD 15 1D 1E /2
FD 15 1F 20 /4
FD 15 21 22 /2
FD 16 54 58 /16
FD 16 55 59 /8
FD 16 56 5A /4
FD 16 57 5B /2
FD 0 E-14 23-53 5E-99 9B-A1 A3 A4 A7-AE B1 B5-BA BC-C1 C3 C4 C7-CE D1 D5-E1 E3-ED EF-FF`

func number(t *testing.T, s string, base int) int {
	n, err := strconv.ParseUint(s, base, 32)
	if err != nil {
		t.Fatal(err)
	}
	return int(n)
}

// ops is the table, one by one.
func ops(t *testing.T) map[Op]Info {
	all := map[Op]Info{}
	for _, line := range strings.Split(strings.TrimSpace(table), "\n") {
		words := strings.Fields(line)
		prefix, info := byte(number(t, words[0], 16)), Info{Shape: number(t, words[1], 10)}
		words = words[2:]
		if last := words[len(words)-1]; last[0] == '/' {
			info.Lanes = number(t, last[1:], 10)
			words = words[:len(words)-1]
		}
		for _, w := range words {
			low, high, row := strings.Cut(w, "-")
			if !row {
				high = low
			}
			for code := number(t, low, 16); code <= number(t, high, 16); code++ {
				o := Op{prefix, uint32(code)}
				if _, twice := all[o]; twice {
					t.Fatalf("%v twice", o)
				}
				all[o] = info
			}
		}
	}
	return all
}

func TestFind(t *testing.T) {
	all := ops(t)
	for prefix := range 256 {
		codes := []uint32{math.MaxUint32, 1 << 31, 1 << 16}
		for code := range uint32(0x300) {
			codes = append(codes, code)
		}
		for _, code := range codes {
			o := Op{byte(prefix), code}
			want, there := all[o]
			if got, ok := Find(o); got != want || ok != there {
				t.Fatalf("P6.1: Find(%x) = %v %v, not %v %v", o, got, ok, want, there)
			}
		}
	}
}

func TestCodes(t *testing.T) {
	all := ops(t)
	for prefix, many := range map[byte]int{0: 183, 0xfc: 18, 0xfd: 236, 0xfe: 0, 1: 0, 0xff: 0, 0xfb: 0} {
		var want []uint32
		for o := range all {
			if o.Prefix == prefix {
				want = append(want, o.Code)
			}
		}
		slices.Sort(want)
		got := slices.Collect(Codes(prefix))
		if !slices.Equal(got, want) {
			t.Errorf("P6.2: Codes(%x) = %x, not %x", prefix, got, want)
		}
		if len(got) != many {
			t.Errorf("P6.3: %d ops of %x", len(got), prefix)
		}
	}
	for range 2 {
		var first []uint32
		walk := Codes(0xfd)
		for code := range walk {
			if first = append(first, code); len(first) == 15 {
				break
			}
		}
		if want := []uint32{0, 1, 2, 3, 4, 5, 6, 7, 8, 9, 10, 11, 12, 13, 14}; !slices.Equal(first, want) {
			t.Errorf("P6.2: the first ones: %d", first)
		}
		if n := len(slices.Collect(walk)); n != 236 {
			t.Errorf("P6.2: walked again: %d", n)
		}
	}
}

func TestSpan(t *testing.T) {
	const end = span.Endless
	spans := []span.Span{{Min: 0, Max: 0}, {Min: 1, Max: 5}, {Min: 1, Max: 5}, {Min: 2, Max: 10}, {Min: 2, Max: end}, {Min: 2, Max: 10}, {Min: 1, Max: 1}, {Min: 2, Max: 2}, {Min: 2, Max: 6}, {Min: 1, Max: 5}, {Min: 1, Max: 10}, {Min: 4, Max: 4}, {Min: 8, Max: 8}, {Min: 16, Max: 16}, {Min: 16, Max: 16}, {Min: 1, Max: 1}, {Min: 3, Max: 11}, {Min: 1, Max: 1}, {Min: 1, Max: end}}
	for shape, want := range spans {
		if got := (Info{Shape: shape, Lanes: 3}).Span(); got != want {
			t.Errorf("P6.1: Span of the shape %d: %v, not %v", shape, got, want)
		}
	}
	for _, shape := range []int{-1, 19, 20, math.MaxInt, math.MinInt} {
		if got := (Info{Shape: shape}).Span(); got != (span.Span{}) {
			t.Errorf("P6.1: Span of no shape, %d: %v", shape, got)
		}
	}
	names := []int{None, Block, Index, Two, Table, Memory, Zero, Zeros, Init, Int32, Int64, Raw4, Raw8, Raw16, Shuffle, Lane, MemoryLane, RefType, Types}
	for n, shape := range names {
		if n != shape {
			t.Errorf("the shape %d is %d", n, shape)
		}
	}
}

func TestPut(t *testing.T) {
	for o, want := range map[Op]string{
		{0, 0x0b}:              "!\x0b",
		{0, 0x1ff}:             "!\xff",
		{0xfd, 0x15}:           "!\xfd\x15",
		{0xfd, 0x7f}:           "!\xfd\x7f",
		{0xfd, 0x80}:           "!\xfd\x80\x01",
		{0xfc, math.MaxUint32}: "!\xfc\xff\xff\xff\xff\x0f",
		{7, 0}:                 "!\x07\x00",
	} {
		if got := o.Put([]byte("!")); string(got) != want {
			t.Errorf("P6.1: Put of %x: %x", o, got)
		}
	}
	for o := range ops(t) {
		b := o.Put(nil)
		if o.Prefix == 0 {
			if len(b) != 1 || uint32(b[0]) != o.Code {
				t.Errorf("P6.1: Put of %x: %x", o, b)
			}
			continue
		}
		if v, n, _ := leb.U(b[1:], 32); b[0] != o.Prefix || uint32(v) != o.Code || n != len(b)-1 || n != leb.SizeU(v) {
			t.Errorf("P6.1: Put of %x: %x", o, b)
		}
	}
}
