package ring

import (
	"fmt"
	"strings"
	"testing"

	"cullet/api"
)

// plainText: P1.12's text, term by term.
func plainText(p uint64) string {
	terms := []string{}
	for i := 63; i >= 0; i-- {
		switch {
		case p&(1<<i) == 0:
		case i >= 2:
			terms = append(terms, fmt.Sprintf("x^%d", i))
		case i == 1:
			terms = append(terms, "x")
		default:
			terms = append(terms, "1")
		}
	}
	if len(terms) == 0 {
		return "0"
	}
	return strings.Join(terms, "+")
}

// P1.12

func TestTextExamples(t *testing.T) {
	for p, want := range map[uint64]string{
		0: "0", 1: "1", 2: "x", 3: "x+1", 4: "x^2", 6: "x^2+x",
		0x11D: "x^8+x^4+x^3+x^2+1", 0x1002D: "x^16+x^5+x^3+x^2+1",
		1 << 63: "x^63", 1<<63 | 1<<10: "x^63+x^10",
	} {
		if s := Text(p); s != want {
			t.Errorf("Text(%#x) = %q, want %q", p, s, want)
		}
	}
}

func TestTextOfPolynomialsOfAllDegrees(t *testing.T) {
	for _, p := range polys(63) {
		if s := Text(p); s != plainText(p) {
			t.Errorf("Text(%#x) = %q, want %q", p, s, plainText(p))
		}
	}
}

// P1.13

func TestParseExamples(t *testing.T) {
	for s, want := range map[string]uint64{
		"0": 0, "1": 1, "x": 2, "x+1": 3, "x^2": 4, "x^10": 1 << 10, "x^20+x^2": 1<<20 | 4,
		"x^8+x^4+x^3+x^2+1": 0x11D, "x^63": 1 << 63, "x^63+1": 1<<63 | 1,
	} {
		if p, e := Parse(s); p != want || e != api.OK {
			t.Errorf("Parse(%q) = %#x, %d, want %#x", s, p, e, want)
		}
	}
}

func TestParseReadsWhatTextWrites(t *testing.T) {
	for _, p := range polys(63) {
		if back, e := Parse(plainText(p)); back != p || e != api.OK {
			t.Errorf("Parse(%q) = %#x, %d, want %#x", plainText(p), back, e, p)
		}
	}
}

func TestParseOfTextsOfNone(t *testing.T) {
	for _, s := range []string{
		"x^2+x+x", "x+x^2", "0+1", "x^02", "x^1", "x^64", "", " x", "x+", "x+x", // the chapter's
		"+", "++", "+x", "x++1", "1+1", "1+x", "1+0", "x+0", "x^3+x^3", "x^3+x^5", "x^63+x^63",
		"x^", "x^+1", "x^0", "x^00", "x^-2", "x^+2", "x^2^3", "x^x", "x^ 2", "x^2 +1", "x^2+1+", "x^2+1\n", "x\x00",
		"X", "X^2", "2", "11", "10", "01", "00", "x1", "x2", "1x", "xx", "x*x", "x^2-1", "0x11d",
		"x^65", "x^99", "x^100", "x^630", "x^063", "x^4294967298", "x^18446744073709551618", "x^36893488147419103234",
		"x^2\xff", "\xff", "x^\u0662", "\u0445", "x\u0302", "\ufffd", "\ufeffx", "x^\uff12", "x^2\u2009+1",
		"x^" + strings.Repeat("9", 10000), "x^" + strings.Repeat("0", 10000) + "2", strings.Repeat("x+", 10000) + "1",
	} {
		if p, e := Parse(s); p != 0 || e != api.ErrText {
			t.Errorf("Parse(%.40q) = %#x, %d, want ErrText", s, p, e)
		}
	}
}

// shortTexts: the texts of polynomials that have at most length bytes; length is 7 at most, so that a text has no more than three terms.
func shortTexts(length int) map[string]uint64 {
	texts := map[string]uint64{"0": 0}
	last := []uint64{0}
	for range 3 {
		next := []uint64{}
		for _, p := range last {
			for i := range 64 {
				q := p | 1<<i
				if s := plainText(q); q != p && len(s) <= length && texts[s] == 0 {
					texts[s] = q
					next = append(next, q)
				}
			}
		}
		last = next
	}
	return texts
}

func TestParseOfAllShortStrings(t *testing.T) {
	const letters = "x^+0126 "
	const length = 7
	texts := shortTexts(length)
	strs := []string{""}
	for begin, size := 0, 0; size <= length; size++ {
		end := len(strs)
		for _, s := range strs[begin:end] {
			want, isText := texts[s]
			p, e := Parse(s)
			if isText && (p != want || e != api.OK) || !isText && (p != 0 || e != api.ErrText) {
				t.Fatalf("Parse(%q) = %#x, %d, want %#x, %v", s, p, e, want, isText)
			}
			if size < length {
				for _, c := range letters {
					strs = append(strs, s+string(c))
				}
			}
		}
		begin = end
	}
}

// TestParseOfSpoiltTexts: one byte of a text is turned, put in or taken out; what is read then is what has that text.
func TestParseOfSpoiltTexts(t *testing.T) {
	for _, p := range polys(63) {
		s := plainText(p)
		if len(s) > 60 {
			continue
		}
		for i := range len(s) + 1 {
			for _, c := range []string{"", "x", "^", "+", "0", "1", "2", "9", "x+", "+1", " ", "\xff"} {
				spoilt := []string{s[:i] + c + s[i:]}
				if i < len(s) {
					spoilt = append(spoilt, s[:i]+c+s[i+1:])
				}
				for _, text := range spoilt {
					q, e := Parse(text)
					if e == api.OK && plainText(q) != text || e != api.OK && (q != 0 || e != api.ErrText) {
						t.Errorf("Parse(%q) = %#x, %d", text, q, e)
					}
				}
			}
		}
	}
}
