package console

import (
	"fmt"
	"strings"
	"testing"
)

// P27.1 and P27.2: whole scripts.

// runs: Run answers what the model says, and so does Do, a line at a time.
func runs(t *testing.T, script string) string {
	t.Helper()
	got, want := Run(script), runModel(script)
	if got != want {
		t.Fatalf("Run(%s): %s, want %s", short(script), short(got), short(want))
	}
	return got
}

// All short scripts of a few bytes.
func TestShortScripts(t *testing.T) {
	var with func(script string, left int)
	with = func(script string, left int) {
		runs(t, script)
		if left == 0 {
			return
		}
		for _, b := range []string{"\n", " ", "-", "\x00", "\xff", "\r"} {
			with(script+b, left-1)
		}
	}
	with("", 5)
}

// A script is answered a line a line; an empty piece at the end is no line.
func TestLineEnds(t *testing.T) {
	for script, want := range map[string]string{
		"":                          "",
		"\n":                        "\n",
		"\n\n":                      "\n\n",
		" ":                         "\n",
		" \n":                       "\n",
		" \n ":                      "\n\n",
		"sum 61":                    "ok e8b7be43\n",
		"sum 61\n":                  "ok e8b7be43\n",
		"sum 61\n\n":                "ok e8b7be43\n\n",
		"\nsum 61":                  "\nok e8b7be43\n",
		"sum 61\r\n":                "error 271\n",
		"sum 61\nfly\n\nsum -":      "ok e8b7be43\nerror 270\n\nok 00000000\n",
		"sum\n61":                   "error 271\nerror 270\n",
		"encode\rsum 61\x00\nnames": "error 270\nerror 272\n",
	} {
		if got := runs(t, script); got != want {
			t.Errorf("Run(%q): %q, want %q", script, got, want)
		}
	}
}

// The limits of a script from both sides. A script beyond them is answered one error, whatever its lines are.
func TestLimits(t *testing.T) {
	const long = "error 273\n"
	line := "sum 61\n"
	for script, want := range map[string]string{
		strings.Repeat(" ", 65536):                                     "\n",
		strings.Repeat(" ", 65537):                                     long,
		strings.Repeat("x", 65536):                                     "error 270\n",
		strings.Repeat("x", 65537):                                     long,
		"sum 61" + strings.Repeat(" ", 65529) + "\n":                   "ok e8b7be43\n",
		"sum 61" + strings.Repeat(" ", 65530) + "\n":                   long,
		strings.Repeat("\n", 511):                                      strings.Repeat("\n", 511),
		strings.Repeat("\n", 512):                                      strings.Repeat("\n", 512),
		strings.Repeat("\n", 513):                                      long,
		strings.Repeat("\n", 511) + "x":                                strings.Repeat("\n", 511) + "error 270\n",
		strings.Repeat("\n", 512) + "x":                                long,
		strings.Repeat("\n", 512) + " ":                                long,
		strings.Repeat("\n", 65536):                                    long,
		strings.Repeat("\n", 1<<20):                                    long,
		strings.Repeat(line, 512):                                      strings.Repeat("ok e8b7be43\n", 512),
		strings.Repeat(line, 513):                                      long,
		strings.Repeat(line, 511) + "sum 61":                           strings.Repeat("ok e8b7be43\n", 512),
		strings.Repeat(line, 512) + strings.Repeat(" ", 60000):         long,
		strings.Repeat(line, 500) + strings.Repeat(" ", 62036):         strings.Repeat("ok e8b7be43\n", 500) + "\n",
		strings.Repeat(line, 500) + strings.Repeat(" ", 62037):         long,
		"engine vander table 2 1 1 64 4\n" + strings.Repeat("\n", 512): long,
	} {
		if got := runs(t, script); got != want {
			t.Errorf("Run(%s): %s, want %s", short(script), short(got), short(want))
		}
	}
}

// A line of Do may be longer than a script.
func TestLongLines(t *testing.T) {
	p := newPair(t, "engine vander sliced 2 1 1 64 4", "store 1048576 3")
	data := strings.Repeat("5a", 1<<20)
	for _, line := range []string{"sum " + data, "split " + data, "encode", "verify", "join", "put a " + data, "get a", "put a " + data + "00", "get " + strings.Repeat("a", 1<<20), "poly x" + strings.Repeat("+1", 1<<20), "picks" + strings.Repeat(" -7", 1<<18), "lose" + strings.Repeat(" 1", 1<<18), strings.Repeat(" ", 1<<20), strings.Repeat("x", 1<<20), "sum" + strings.Repeat(" ", 1<<20) + "61"} {
		p.tell(line)
	}
}

// draw: a line, mostly one that fits.
func draw(d *dice) string {
	n := func() string { return fmt.Sprint(d.next(5)) }
	name := func() string { return oneOf(d, "a", "b", "-", "free", "\xff\t") }
	bytes := func() string {
		if d.next(12) == 0 {
			return "-"
		}
		return fmt.Sprintf("%x", d.bytes(1+d.next(6)))
	}
	octet := func() string { return fmt.Sprintf("%02x", d.next(256)) }
	switch d.next(40) {
	case 0:
		return "picks" + oneOf(d, "", " free", " 1", " 2 -1 0 5", " -3")
	case 1:
		code := oneOf(d, "vander table", "vander nibble", "vander sliced", "cauchy table", "cauchy nibble", "cauchy sliced", "long direct", "long fast")
		return fmt.Sprintf("engine %s %d %d %d %d %d", code, 1+d.next(3), 1+d.next(3), 1+d.next(3), oneOf(d, 1, 2, 64), 1+d.next(3))
	case 2, 3:
		return "split " + bytes()
	case 4, 5, 6:
		return "encode"
	case 7:
		return "stream " + fmt.Sprint(d.next(4)) + " " + fmt.Sprint(d.next(4))
	case 8:
		return "verify"
	case 9, 10, 11:
		return "lose " + n() + oneOf(d, "", "", " "+n())
	case 12, 13:
		return "spoil " + n() + " " + n() + " " + octet()
	case 14, 15:
		return "repair"
	case 16:
		return "repairdata"
	case 17, 18:
		return "correct"
	case 19, 20:
		return "update " + n() + " " + bytes()
	case 21:
		return "join"
	case 22:
		return "show " + n()
	case 23:
		return "cached"
	case 24:
		return "store " + oneOf(d, "16", "17", "18", "1048576", "15") + " " + fmt.Sprint(d.next(9))
	case 25, 26, 27:
		return "put " + name() + " " + bytes()
	case 28:
		return "get " + name()
	case 29:
		return "patch " + name() + " " + n() + " " + bytes()
	case 30:
		return "delete " + name()
	case 31, 32:
		return "heal " + name()
	case 33:
		return "names"
	case 34:
		return "home " + name()
	case 35:
		return "down " + n()
	case 36:
		return "up " + n()
	case 37:
		return oneOf(d, "wipe "+n(), "sum "+bytes(), "poly "+oneOf(d, "x", "x^3+x+1", "x^4", "1", "y"), "", "  ")
	}
	return "hurt " + n() + " " + name() + " " + fmt.Sprint(d.next(70)) + " " + octet()
}

// story: so many lines; they begin with a code, and each other code is mostly gone on with.
func story(d *dice, count int) []string {
	var lines []string
	begin := true
	for len(lines) < count {
		line := draw(d)
		for begin && !strings.HasPrefix(line, "engine") && !strings.HasPrefix(line, "picks") {
			line = draw(d)
		}
		lines = append(lines, line)
		if !strings.HasPrefix(line, "engine") {
			continue
		}
		begin = false
		if d.next(6) > 0 {
			lines = append(lines, fmt.Sprintf("split %x", d.bytes(1+d.next(15))), "encode")
		}
		if d.next(6) > 0 {
			lines = append(lines, "store "+oneOf(d, "16", "18", "1024")+" "+fmt.Sprint(2+d.next(6)))
		}
	}
	return lines
}

// mangled: the line with one byte more, one less, or another one.
func mangled(d *dice, line string) string {
	if line == "" {
		return " "
	}
	at := d.next(len(line))
	b := string([]byte{byte(oneOf(d, 0, ' ', '-', '0', '1', 'a', 'f', 'x', 255, d.next(256)))})
	return oneOf(d, line[:at]+b+line[at:], line[:at]+line[at+1:], line[:at]+b+line[at+1:], line+b, line+" "+b)
}

// Thrown scripts, held against the model: every answer, and what is kept at the end.
func TestThrownScripts(t *testing.T) {
	for part := range 8 {
		t.Run(fmt.Sprint(part), func(t *testing.T) {
			t.Parallel()
			d := dice(100 + part)
			for range 150 {
				p := newPair(t)
				for _, line := range story(&d, 20+d.next(60)) {
					if d.next(15) == 0 {
						line = mangled(&d, line)
					}
					p.tell(line)
				}
				p.settled()
			}
		})
	}
}

// (P27.2) Run answers a line a line what Do answers on one console.
func TestRunIsDo(t *testing.T) {
	d := dice(3)
	for range 100 {
		c, script, want := New(), "", ""
		for _, line := range story(&d, d.next(80)) {
			if d.next(10) == 0 {
				line = strings.ReplaceAll(mangled(&d, line), "\n", "?")
			}
			script += line + "\n"
			want += c.Do(line) + "\n"
		}
		if got := runs(t, script); got != want {
			t.Fatalf("Run(%q): %q; Do answers %q", script, got, want)
		}
		// The last line needs no end.
		if n := len(script); n > 0 && !strings.HasSuffix(script, "\n\n") && n > 1 {
			if got := Run(script[:n-1]); got != want {
				t.Fatalf("Run(%q): %q; with a byte 10 behind it %q", script[:n-1], got, want)
			}
		}
	}
}

// (P27.2) Consoles know nothing of each other: scripts on several at one time, a line each in turn, are answered as each by itself.
func TestConsolesApart(t *testing.T) {
	d := dice(4)
	for range 30 {
		consoles, scripts, answers := make([]*Console, 4), make([]string, 4), make([]string, 4)
		for i := range consoles {
			consoles[i] = New()
		}
		stories := make([][]string, len(consoles))
		for i := range stories {
			stories[i] = story(&d, 50)
		}
		for range 190 {
			i := d.next(len(consoles))
			if len(stories[i]) == 0 {
				continue
			}
			line := stories[i][0]
			stories[i] = stories[i][1:]
			scripts[i] += line + "\n"
			answers[i] += consoles[i].Do(line) + "\n"
		}
		for i := range scripts {
			if got := Run(scripts[i]); got != answers[i] {
				t.Fatalf("%q by itself: %q, among others %q", scripts[i], got, answers[i])
			}
		}
	}
}

// (P27.1) Scripts of thrown bytes, and of thrown words.
func TestThrownBytes(t *testing.T) {
	d := dice(5)
	for range 300 {
		runs(t, string(d.bytes(d.next(400))))
	}
	for range 2000 {
		script := ""
		for range d.next(30) {
			word := oneOf(&d, "engine vander table 2 1 1 64 4\n", "split 0102\n", "store 16 4\n", "0", "1", "00", "-", "free", "a", "\n", "\n", " ", "poly", "sum", "picks", "engine", "split", "encode\n", "stream", "verify\n", "lose", "spoil", "repair\n", "repairdata\n", "correct\n", "update", "join\n", "show", "cached\n", "store", "put", "get", "patch", "delete", "heal", "names\n", "home", "down", "up", "wipe", "hurt")
			script += word + oneOf(&d, " ", " ", "  ", "\n", "")
		}
		runs(t, script)
	}
}
