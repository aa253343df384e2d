package bench

import (
	"encoding/hex"
	"strings"
	"testing"
)

const front = "0061736d01000000"

func TestLines(t *testing.T) {
	for _, x := range []struct{ text, want string }{
		{"feed " + front + "\nclose", "ok 0\nok 8\n"},
		{"", ""},
		{"\n\n", ""},
		{"new", "ok\n"},
		{"new\n\nnew\n", "ok\nok\n"},
		{"feed -\nfeed 00\nfeed 61736D\nclose\nclose", "ok 0\nok 1\nok 4\ntruncated 4\ntruncated 4\n"},
		{"feed 01\nfeed 00\nfeed -\nclose\nfeed 00\nnew\nfeed 00", "malformed 0\nmalformed 0\nmalformed 0\nmalformed 0\nclosed\nok\nok 1\n"},
		{"feed " + front + "01\nfeed 03\nfeed 01\nclose", "ok 1\nok 2\nmalformed 10\nmalformed 10\n"},
		{"close\nparts\nnames\nfeed " + front, "truncated 0\nnone\nnone\nclosed\n"},
		{"feed " + front + "\nparts\nparts\nclose\nfeed 00", "ok 0\nparts\nparts\nok 8\nclosed\n"},
		{"feed " + front + "010401600000" + "03020100" + "080100" + "0c0101" + "0a040102000b" + "0b03010100" + "\nparts", "ok 0\nparts 1:1 3:1 8:1 10:1 11:1 12:1\n"},
		{"feed " + front + "0c0100" + "\nparts\nclose", "ok 0\nparts 10:1\nok 11\n"},
		{"feed " + front + "010101\nparts\nnames\nclose", "malformed 10\nnone\nnone\nmalformed 10\n"},
		{"feed " + front + "0302\nparts\nclose", "ok 2\nnone\ntruncated 10\n"},
		{"feed " + front + "\nnames", "ok 0\nnone\n"},
		{"feed " + front + "0005046e616d65\nnames\nnew\nnames", "ok 0\nnames - 0 0\nok\nnone\n"},
		{"feed " + front + "0009046e616d650002014d\nnames\nfeed 00", "ok 0\nnames 4d 0 0\nclosed\n"},
		{"feed " + front + "0009046e616d6500020180\nnames", "ok 0\nnone\n"},
		{"feed " + front + "001b046e616d65" + "000302c3a9" + "0106020000010161" + "020702050007010000" + "\nnames", "ok 0\nnames c3a9 2 2\n"},
		{"canon " + front, front + "\n"},
		{"canon " + strings.ToUpper(front) + "01818080800000", front + "\n"},
		{"canon -", "truncated 0\n"},
		{"canon 00", "truncated 1\n"},
		{"canon 0062", "malformed 1\n"},
		{"canon " + front + "03020180", "malformed 11\n"},
		{"alike " + front + " " + front + "010100", "yes\n"},
		{"alike " + front + " " + front + "0c0100", "no\n"},
		{"alike - -", "no\n"},
		{"alike " + front + " -", "no\n"},
	} {
		if got := Run(x.text); got != x.want {
			t.Errorf("P16.1: %q tells %q, not %q", x.text, got, x.want)
		}
	}
}

func wrongLines() []string {
	return []string{
		" ", "  ", " new", "new ", "new  ", "new -", "New", "NEW", "feed", "feed ", "feed 0", "feed 000", "feed 0g", "feed g0", "feed --", "feed -0", "feed 00 00", "feed  00", "feed 00 ", "feed 0x",
		"close 1", "close ", "parts -", "names 00", "canon", "canon 00 00", "canon 0", "alike", "alike 00", "alike 00 0", "alike 0 00", "alike 00 00 00", "alike - - -", "alike  00 00", "other", "feed\t00", "feed 00\r", "feed +1", "feed 1_", "feed é", "feed 0\xff", "\x00",
	}
}

// TestWrongLines: nothing happens of a line that is wrong.
func TestWrongLines(t *testing.T) {
	for _, line := range append(wrongLines(), "new\n", "feed 00\n", "\n", "feed\n00", "close\nclose") {
		b := New()
		b.Line("feed 0061")
		if got := b.Line(line); got != "error 4\n" {
			t.Errorf("P16.1: %q tells %q", line, got)
		}
		if got := b.Line("feed 73"); got != "ok 3\n" {
			t.Errorf("P16.2: behind %q: %q", line, got)
		}
		b.Line("close")
		if got := b.Line(line) + b.Line("close") + b.Line("feed 00"); got != "error 4\ntruncated 3\nclosed\n" {
			t.Errorf("P16.2: %q, closed: %q", line, got)
		}
	}
	if got := New().Line(""); got != "" {
		t.Errorf("P16.1: a line without any byte tells %q", got)
	}
}

// TestMore: two texts tell what the first one tells, and more; what looks at bytes changes nothing.
func TestMore(t *testing.T) {
	texts := []string{"", "new", "feed " + front, "feed 0061", "close", "feed 00\nclose", "parts", "names\nfeed -", "canon 00", "alike - -", "other\n\nnew", "feed " + front + "01"}
	for _, a := range texts {
		for _, b := range texts {
			if one, both := Run(a), Run(a+"\n"+b); !strings.HasPrefix(both, one) {
				t.Errorf("P16.2: %q tells %q, and with %q %q", a, one, b, both)
			}
			for _, look := range append(wrongLines(), "canon "+front, "canon 00", "alike 00 "+front, "") {
				with := Run(a + "\n" + look + "\n" + b)
				told := Run(look)
				if want := Run(a) + told + strings.TrimPrefix(Run(a+"\n"+b), Run(a)); with != want {
					t.Errorf("P16.2: %q, %q, %q: %q, not %q", a, look, b, with, want)
				}
			}
		}
	}
}

func TestEveryByte(t *testing.T) {
	var all []byte
	for x := range 256 {
		all = append(all, byte(x))
	}
	s := "feed " + front + "00820202" + hex.EncodeToString([]byte("ab")) + hex.EncodeToString(all[:255])
	if got := Run(s); got != "ok 0\n" {
		t.Errorf("P16.1: every byte: %q", got)
	}
	custom := front + "00" + "8202" + "01" + hex.EncodeToString([]byte("a")) + hex.EncodeToString(all)
	if got := Run("canon " + strings.ToUpper(custom)); got != custom+"\n" {
		t.Errorf("P16.1: every byte: %q", got)
	}
}
