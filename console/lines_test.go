package console

import (
	"fmt"
	"slices"
	"strings"
	"testing"
)

// The section 'A line': words, numbers, bytes, and the other forms.

// coded: the lines behind which there are an engine, shards and a store.
var coded = []string{"engine vander table 2 1 1 64 4", "split 0102030405", "encode", "store 16 4"}

// A line without a word is answered by the empty text, and changes nothing.
func TestNoWord(t *testing.T) {
	p := newPair(t, coded...)
	for n := range 70 {
		if got := p.tell(strings.Repeat(" ", n)); got != "" {
			t.Errorf("%d blanks: %q", n, got)
		}
	}
	p.settled()
}

// Blanks stand in any number ahead of the words, between them and behind them.
func TestBlanks(t *testing.T) {
	c := New()
	for _, line := range coded {
		c.Do(line)
	}
	for ahead := range 3 {
		for between := 1; between < 4; between++ {
			for behind := range 3 {
				words := []string{"spoil", "1", "2", "00"}
				line := strings.Repeat(" ", ahead) + strings.Join(words, strings.Repeat(" ", between)) + strings.Repeat(" ", behind)
				expect(t, c, line, "ok")
			}
		}
	}
	expect(t, c, "spoil1 2 00", "error 270")
	expect(t, c, "spoil 12 00", "error 271")
}

// Every byte but the blank belongs to a word, a byte 10 too.
func TestEveryByte(t *testing.T) {
	p := newPair(t, coded...)
	for b := range 256 {
		if b == ' ' {
			continue
		}
		x := string([]byte{byte(b)})
		if got := p.tell("names" + x); got != "error 270" {
			t.Errorf("a command with the byte %d behind it: %s", b, got)
		}
		p.tell(x)
		p.tell("poly " + x)
		p.tell("show 0" + x)
		p.tell("show" + x + "0")
		p.tell("sum 6" + x)
		p.tell("sum " + x + "1")
		p.tell("sum 61" + x)
		for _, name := range []string{x, "q" + x, x + "q", x + x, "q" + x + "q"} {
			if got := p.tell("put " + name + " 07"); got != "ok" {
				t.Errorf("a name with the byte %d is not put: %s", b, got)
			}
			if got := p.tell("get " + name); got != "ok 07" {
				t.Errorf("a name with the byte %d is not got: %s", b, got)
			}
			if got := p.tell("names"); got != "ok "+name {
				t.Errorf("the only name is %q: %q", name, got)
			}
			if got := p.tell("delete " + name); got != "ok" {
				t.Errorf("a name with the byte %d is not deleted: %s", b, got)
			}
		}
	}
}

// The words of the chapter, and no others, are commands.
func TestOtherCommands(t *testing.T) {
	for _, setting := range [][]string{nil, coded[:1], coded} {
		p := newPair(t, setting...)
		for name := range kinds {
			for _, other := range []string{strings.ToUpper(name), strings.ToUpper(name[:1]) + name[1:], name + "s ", name[:len(name)-1], name + "\t", "\t" + name, name + "\x00", name + "\n", name + name, name + "-", "-" + name} {
				other = strings.TrimSuffix(other, " ")
				if _, known := kinds[other]; known {
					continue
				}
				for _, behind := range []string{"", " 0", " a 00", " 0 0 00"} {
					if got := p.tell(other + behind); got != "error 270" {
						t.Errorf("%q: %s", other+behind, got)
					}
				}
			}
		}
		p.settled()
	}
}

// numbers: texts, and whether each is a number, and whether it is a signed one.
var numbers = []struct {
	text         string
	good, signed bool
}{
	{"0", true, true}, {"1", true, true}, {"9", true, true}, {"10", true, true}, {"100", true, true}, {"12345", true, true},
	{"99999999999999999", true, true}, {"999999999999999999", true, true}, {"100000000000000000", true, true},
	{"1000000000000000000", false, false}, {"9999999999999999999", false, false}, {"18446744073709551616", false, false},
	{"00", false, false}, {"01", false, false}, {"000000000000000001", false, false}, {"0000", false, false},
	{"-1", false, true}, {"-10", false, true}, {"-999999999999999999", false, true}, {"-100000000000000000", false, true},
	{"-1000000000000000000", false, false}, {"-9223372036854775808", false, false},
	{"-0", false, false}, {"-01", false, false}, {"-", false, false}, {"--1", false, false}, {"-00", false, false}, {"1-", false, false}, {"0-", false, false}, {"--", false, false},
	{"+1", false, false}, {"+0", false, false}, {"1.", false, false}, {"1e3", false, false}, {"0x1", false, false}, {"1_0", false, false}, {"a", false, false},
	{"1a", false, false}, {"1,2", false, false}, {"\xd9\xa1", false, false}, {"\t1", false, false}, {"1\n", false, false}, {"1\x00", false, false}, {"/", false, false}, {":", false, false},
}

// A number has just one text, and no more than 18 digits; a - stands ahead of picks alone, and of none that is 0.
func TestNumbers(t *testing.T) {
	for _, n := range numbers {
		lines := []string{"show N", "stream N 1", "stream 1 N", "lose N", "lose 0 N", "lose N 0", "spoil N 0 00", "spoil 0 N 00", "update N 00", "store N 4", "store 16 N", "patch a N 00", "down N", "up N", "wipe N", "hurt N a 0 00", "hurt 0 a N 00"}
		code := []string{"engine", "vander", "table", "2", "1", "1", "64", "4"}
		for i := 3; i < len(code); i++ {
			at := slices.Clone(code)
			at[i] = "N"
			lines = append(lines, strings.Join(at, " "))
		}
		for _, line := range lines {
			p := newPair(t, coded...)
			if got := p.tell(strings.ReplaceAll(line, "N", n.text)); (got == "error 271") == n.good {
				t.Errorf("%s with %q: %s", line, n.text, got)
			}
			p.settled()
		}
		for _, line := range []string{"picks N", "picks 1 N", "picks N 1", "picks N N N"} {
			p := newPair(t, coded[0])
			if got := p.tell(strings.ReplaceAll(line, "N", n.text)); (got == "ok") != n.signed {
				t.Errorf("%s with %q: %s", line, n.text, got)
			}
			p.tell("engine vander table 2 1 2 1 4")
			p.settled()
		}
	}
}

// The digits of bytes are 0 to 9 and a to f, two of them a byte, the higher half first.
func TestBytes(t *testing.T) {
	p := newPair(t)
	right := 0
	for high := range 256 {
		for low := range 256 {
			if high == ' ' || low == ' ' {
				continue
			}
			line := "sum " + string([]byte{byte(high), byte(low)})
			if got := p.ask(line); got != "error 271" {
				right++
			}
		}
	}
	if right != 256 {
		t.Errorf("%d words of two bytes are bytes", right)
	}
	for _, wrong := range []string{"0", "f", "000", "--", "---", "-00", "00-", "0-", "A0", "0A", "FF", "0x00", "00,00", "g0", "0g", "\xff\xff"} {
		for _, line := range []string{"sum X", "split X", "update 0 X", "put a X", "patch a 0 X", "spoil 0 0 X", "hurt 0 a 0 X"} {
			q := newPair(t, coded...)
			if got := q.tell(strings.ReplaceAll(line, "X", wrong)); got != "error 271" {
				t.Errorf("%s with %q: %s", line, wrong, got)
			}
			q.settled()
		}
	}
}

// One byte is bytes of just one byte.
func TestOneByte(t *testing.T) {
	for _, line := range []string{"spoil 0 0 X", "hurt 0 a 0 X"} {
		p := newPair(t, append(slices.Clone(coded), "put a 07")...)
		for _, wrong := range []string{"-", "0000", "010101"} {
			if got := p.tell(strings.ReplaceAll(line, "X", wrong)); got != "error 271" {
				t.Errorf("%s with %q: %s", line, wrong, got)
			}
		}
		for b := range 256 {
			if got := p.tell(strings.ReplaceAll(line, "X", fmt.Sprintf("%02x", b))); got != "ok" {
				t.Errorf("%s with %02x: %s", line, b, got)
			}
			p.settled()
		}
	}
}

// Bytes come back as they were written.
func TestBytesBack(t *testing.T) {
	d := dice(11)
	p := newPair(t, "engine vander sliced 1 1 1 64 4", "store 1024 2")
	for n := range 300 {
		text := fmt.Sprintf("%x", d.bytes(n+1))
		p.tell("split " + text)
		for _, line := range []string{"join", "show 0"} {
			if got := p.tell(line); got != "ok "+text {
				t.Errorf("%d bytes come back as %s", n+1, short(got))
			}
		}
		p.tell("put a " + text)
		if got := p.tell("get a"); got != "ok "+text {
			t.Errorf("%d bytes are got as %s", n+1, short(got))
		}
	}
}

// The names of families and backends, and no others.
func TestFamilies(t *testing.T) {
	families := []string{"vander", "cauchy", "long", "Vander", "LONG", "vande", "vanders", "0", "1", "-", "fast", "\xff"}
	backends := []string{"table", "nibble", "sliced", "direct", "fast", "Table", "FAST", "tabl", "tables", "0", "3", "-", "long", "\xff"}
	for i, f := range families {
		for j, b := range backends {
			p := newPair(t, coded...)
			got := p.tell("engine " + f + " " + b + " 2 1 1 64 4")
			want := "error 3"
			switch {
			case i > 2 || j > 4:
				want = "error 271"
			case (i < 2) == (j < 3):
				want = "ok"
			}
			if got != want {
				t.Errorf("engine %q %q: %s, want %s", f, b, got, want)
			}
			p.settled()
		}
	}
}
