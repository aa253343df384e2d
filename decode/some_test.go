package decode

import (
	"math/rand"
	"strings"

	"dobby/module"
)

const front = "\x00asm\x01\x00\x00\x00"

// longer is v by sevens, perhaps in more bytes than it needs.
func longer(r *rand.Rand, v int) string {
	n := number(v).Min
	if r.Intn(4) == 0 {
		n += r.Intn(6 - n)
	}
	b := make([]byte, n)
	for i := range b {
		b[i] = byte(v>>(7*i)) | 128
	}
	b[n-1] &= 127
	return string(b)
}

// pieces are entries of each part, as they may stand, without data and with it.
func pieces(part int, data bool) []string {
	exprs := []string{"\x0b", "\x41\x05\x0b", "\x41\xff\x7f\x0b", "\xd2\x07\x0b", "\xd2\x87\x00\x0b", "\xd0\x70\x0b", "\x23\x00\x0b", "\x04\x40\x05\x0b\x0b", "\x02\x7f\x41\x01\x0b\x0b",
		"\x04\x80\x00\x01\x05\x01\x0b\x0b", "\xfd\x0c0123456789abcdef\x0b", "\xfd\xff\x81\x00\x0b", "\x0e\x02\x00\x81\x00\x00\x0b", "\x1c\x01\x7f\x0b", "\xfd\x15\x0f\xfd\x54\x00\x01\x0f\x0b"}
	if data {
		exprs = append(exprs, "\xfc\x08\x00\x00\x0b", "\xfc\x89\x00\x05\x0b", "\xfc\x09\x80\x00\x0b")
	}
	var l []string
	each := func(ahead, behind string) {
		for _, e := range exprs {
			l = append(l, ahead+e+behind)
		}
	}
	switch part {
	case 1:
		return []string{"\x60\x00\x00", "\x60\x01\x7f\x00", "\x60\x82\x00\x7e\x7b\x01\x70", "\x60\x00\x80\x80\x00"}
	case 2:
		return []string{"\x00\x00\x00\x00", "\x01a\x03€\x00\x85\x00", "\x00\x01b\x01\x70\x00\x00", "\x81\x00x\x00\x02\x01\x00\x81\x00", "\x00\x00\x03\x7f\x01"}
	case 3:
		return []string{"\x00", "\x07", "\x80\x00", "\xff\xff\xff\xff\x0f", "\x80\x01"}
	case 4:
		return []string{"\x70\x00\x00", "\x6f\x01\x80\x00\x01", "\x70\x00\xff\xff\xff\xff\x0f"}
	case 5:
		return []string{"\x00\x00", "\x01\x01\x02", "\x01\x81\x00\x82\x00"}
	case 6:
		each("\x7f\x00", "")
		each("\x70\x01", "")
	case 7:
		return []string{"\x00\x00\x00", "\x02ab\x03\x07", "\x82\x00ab\x02\x87\x00"}
	case 9:
		each("\x00", "\x00")
		each("\x02\x00", "\x00\x01\x07")
		each("\x05\x6f\x01", "")
		each("\x06\x81\x00\x0b\x70\x82\x00\x0b", "")
		l = append(l, "\x01\x00\x02\x07\x88\x00", "\x83\x00\x00\x00", "\x04\x0b\x01\xd2\x07\x0b", "\x07\x70\x01\xd2\x07\x0b")
	case 11:
		for _, e := range exprs {
			for _, locals := range []string{"\x00", "\x01\x05\x7f", "\x03\x01\x7f\x00\x7e\x81\x00\x7f", "\x80\x00", "\x02\xff\xff\xff\xff\x0f\x7f\x00\x7e"} {
				s := locals + e
				l = append(l, string([]byte{byte(len(s))})+s, string([]byte{byte(len(s)) | 128, 0})+s)
			}
		}
	case 12:
		each("\x00", "\x02ab")
		each("\x02\x00", "\x00")
		each("\x82\x00\x85\x00", "\x81\x00\xff")
		l = append(l, "\x01\x00", "\x81\x00\x03abc", "\x01\x80\x80\x00")
	}
	return l
}

// section puts a section.
func section(r *rand.Rand, id byte, content string) string {
	return string([]byte{id}) + longer(r, len(content)) + content
}

// someBytes is some module's bytes, perhaps more than it needs.
func someBytes(r *rand.Rand, most int) string {
	s := front
	funcs, datas, count := 0, 0, r.Intn(2) == 0
	few := r.Intn(3)
	for part := 0; part <= 12; part++ {
		n := r.Intn(most + 1)
		switch {
		case part == 3:
			funcs = n
		case part == 10:
			datas = r.Intn(most + 1)
		case part == 11:
			n = funcs
		case part == 12 && count:
			n = datas
		}
		there := r.Intn(3) >= few || part == 3 || part == 11 && n > 0 || part == 12 && count && n > 0
		if part == 3 && r.Intn(2) == 0 {
			funcs, there = 0, false
		}
		switch {
		case part == 0:
		case part == 10:
			if count {
				s += section(r, 12, longer(r, datas))
			}
		case !there:
		case part == 8:
			s += section(r, 8, longer(r, r.Intn(1000)))
		default:
			l := pieces(part, count)
			content := longer(r, n)
			for range n {
				content += l[r.Intn(len(l))]
			}
			s += section(r, module.Id(part), content)
		}
		for range r.Intn(4) / 3 {
			name := []string{"", "name", "€", strings.Repeat("x", 130)}[r.Intn(8)/2%4]
			s += section(r, 0, longer(r, len(name))+name+[]string{"", "\xff\x00", "abc"}[r.Intn(3)])
		}
	}
	return s
}
