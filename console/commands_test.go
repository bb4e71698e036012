package console

import (
	"fmt"
	"slices"
	"strings"
	"testing"
)

// Each command in each situation, with arguments of all kinds, held against the model.

// situations: the lines that lead to each.
var situations = [][]string{
	{},
	{"picks 2 -1 0"},
	{"engine vander table 2 1 1 64 4"},
	{"picks 1 2 -3", "engine cauchy nibble 2 2 3 1 1", "store 16 5"},
	{"engine vander sliced 2 2 1 64 4", "split 01020304"},
	{"engine vander table 2 1 1 64 4", "split 0102030405", "encode", "store 16 4", "put a 0708", "down 3", "put a 09", "put - 01", "up 3"},
	{"engine cauchy table 1 2 2 1 1", "split 0102", "encode", "lose 0", "repair", "lose 2", "repairdata", "store 20 3", "put a -", "put b 01", "delete b", "down 1"},
	{"engine long fast 2 1 1 3 2", "split 01020304", "encode", "lose 1", "store 16 3", "put a 010203", "hurt 0 a 50 01"},
	{"picks", "engine long direct 2 2 2 2 2", "split 010203", "encode", "spoil 3 1 80", "store 18 64", "put a 01"},
	{"engine vander table 2 2 1 64 4", "split 0102", "encode", "lose 0 1 2"},
	{"engine vander table 2 2 1 64 4", "split 0102", "encode", "lose 0 1 2 3"},
	{"engine vander table 1 2 1 64 4", "split 0501", "spoil 1 0 05", "spoil 1 1 02", "spoil 2 0 06", "spoil 2 1 02"},
	{"engine vander nibble 2 2 1 64 4", "split 0100", "encode", "spoil 1 0 ff", "lose 0"},
}

// pool: words that one argument of a line may be.
var pool = []string{"0", "1", "3", "4", "16", "63", "-1", "-", "00", "0a0b", "0A", "a", "free", "999999999999999999"}

// everyLine: each command with lists of words of the pool, and each list that is right with one word too few, one too many, and one that is another.
func everyLine() []string {
	var lines []string
	for name, k := range kinds {
		var with func(line string, left int)
		with = func(line string, left int) {
			lines = append(lines, line)
			if left == 0 {
				return
			}
			for _, word := range pool {
				with(line+" "+word, left-1)
			}
		}
		with(name, min(2, len(k.form)+1))
	}
	right := []string{
		"spoil 0 0 01", "spoil 1 1 ff", "spoil 3 0 00", "spoil 4 0 01", "spoil 0 2 01", "lose 0 1 2", "lose 3 3", "lose 0 4", "lose 2 1 0 3",
		"patch a 0 ff", "patch a 1 ff", "patch a 2 ff", "patch a 0 -", "patch - 0 02", "patch b 0 01",
		"hurt 0 a 0 01", "hurt 0 a 4 ff", "hurt 3 a 50 80", "hurt 0 a 9999 01", "hurt 1 - 0 01", "hurt 64 a 0 01",
		"engine vander table 2 1 1 64 4", "engine vander nibble 3 3 64 16777216 1024", "engine cauchy sliced 255 1 1 1 1", "engine long direct 2 2 2 2 2", "engine long fast 65535 1 1 1 1",
		"engine long table 2 1 1 64 4", "engine cauchy fast 0 0 0 0 0", "engine vander table 256 1 1 1 1", "engine vander table 2 1 0 0 0", "engine vander table 2 1 65 1 1",
		"engine vander table 2 1 1 0 0", "engine vander table 2 1 1 16777217 1", "engine vander table 2 1 1 1 0", "engine vander table 2 1 1 1 1025",
		"picks 0 1 -2", "picks 7 8 9 10", "picks free free", "picks 1 free", "picks free 1",
		"stream 1 1", "stream 2 1", "stream 16 3", "stream 1048576 1", "stream 1048577 1", "stream 0 0", "stream 2 0", "stream 3 1",
		"store 16 3", "store 16 4", "store 17 5", "store 15 0", "store 16 64", "store 16 65", "store 1048576 9", "store 1048577 9",
		"put b 0102", "put " + strings.Repeat("n", 64) + " 01", "put " + strings.Repeat("n", 65) + " -", "put a -", "get b", "get " + strings.Repeat("n", 65),
		"home " + strings.Repeat("n", 64), "home " + strings.Repeat("n", 65), "heal a", "heal -", "delete a", "delete -",
		"poly x^8+x^4+x^3+x^2+1", "poly x^16+x^5+x^3+x^2+1", "poly x^17+x^3+1", "poly x^63", "poly x^64", "poly x", "poly x+1", "poly 0", "poly 1+x", "poly x^2+1",
		"sum 313233343536373839", "split " + strings.Repeat("5a", 100), "update 0 0a0b", "update 1 0c", "update 1 0c0d", "update 0 0a0b0c",
	}
	for _, line := range right {
		lines = append(lines, line, line+" 0", line+" a", line+" 00")
		words := strings.Fields(line)
		lines = append(lines, strings.Join(words[:len(words)-1], " "))
		for i := 1; i < len(words); i++ {
			for _, word := range []string{"x", "-", "00", "-1", "5", "\xff"} {
				other := slices.Clone(words)
				other[i] = word
				lines = append(lines, strings.Join(other, " "))
			}
		}
	}
	slices.Sort(lines)
	return slices.Compact(lines)
}

// (P27.1) Every line in every situation is answered as the chapter says; and behind it all is as the chapter says: behind an error nothing has changed.
func TestEveryLine(t *testing.T) {
	lines := everyLine()
	for n, situation := range situations {
		t.Run(fmt.Sprint(n), func(t *testing.T) {
			t.Parallel()
			p := newPair(t, situation...)
			for _, line := range lines {
				got := p.tell(line)
				p.settled()
				// A line that is refused leaves the situation as it is.
				if !strings.HasPrefix(got, "error") {
					p.ask("get a")
					p = newPair(t, situation...)
				}
			}
		})
	}
}

// The order of errors: no command, no arguments, nothing there, the call's own.
func TestOrder(t *testing.T) {
	c := New()
	for name, k := range kinds {
		expect(t, c, name+"? x x x x x x x x x", "error 270")
		if name != "picks" && name != "lose" {
			expect(t, c, name+" 0 0 0 0 0 0 0 0 0", "error 271")
		}
		if k.on != onNothing && len(k.form) > 0 {
			expect(t, c, name, "error 271")
		}
		if k.on != onNothing && len(k.form) == 0 {
			expect(t, c, name, "error 272")
		}
	}
	for _, line := range []string{"split -", "stream 0 0", "lose 999", "spoil 999 999 00", "update 999 -", "show 999", "store 0 0", "put a -", "patch a 9 -", "down 64", "up 99", "wipe 99", "hurt 99 a 9 00", "get a", "heal a", "home a", "delete a"} {
		expect(t, c, line, "error 272")
	}
}

// samples: of each command a line that is right in number and form.
var samples = map[string]string{
	"poly": "poly x", "sum": "sum 00", "picks": "picks 0 -1", "engine": "engine vander table 2 1 1 64 4",
	"split": "split 00", "encode": "encode", "stream": "stream 1 1", "verify": "verify", "lose": "lose 0", "spoil": "spoil 0 0 01",
	"repair": "repair", "repairdata": "repairdata", "correct": "correct", "update": "update 0 01", "join": "join", "show": "show 0",
	"cached": "cached", "store": "store 16 4", "put": "put a 00", "get": "get a", "patch": "patch a 0 00", "delete": "delete a",
	"heal": "heal a", "names": "names", "home": "home a", "down": "down 0", "up": "up 0", "wipe": "wipe 0", "hurt": "hurt 0 a 0 00",
}

// What 'works on' says: an engine alone makes no shards and no store.
func TestLate(t *testing.T) {
	for n, lines := range [][]string{nil, coded[:1], coded[:2], {coded[0], coded[3]}, coded} {
		there := [][]bool{{true, false, false, false}, {true, true, false, false}, {true, true, true, false}, {true, true, false, true}, {true, true, true, true}}[n]
		for name, k := range kinds {
			p := newPair(t, lines...)
			if got := p.tell(samples[name]); (got == "error 272") == there[k.on] || got == "error 271" {
				t.Errorf("behind %q %s is answered %s", lines, samples[name], got)
			}
			p.settled()
		}
	}
}

// An engine makes the shards and the store of the one before it go, and nothing else makes them go.
func TestGone(t *testing.T) {
	for name, k := range kinds {
		p := newPair(t, coded...)
		p.tell(samples[name])
		gone := name == "engine"
		for _, line := range []string{"show 0", "names"} {
			if got := p.tell(line); (got == "error 272") != gone {
				t.Errorf("behind %s %s is answered %s", samples[name], line, got)
			}
		}
		if k.on == onNothing && name != "engine" {
			expect(t, p.c, "join", "ok 0102030405")
		}
	}
	p := newPair(t, append(append([]string{}, coded...), "engine vander fast 2 1 1 64 4", "engine vander table 0 1 1 64 4", "engine vander table 2 1 1 64", "store 15 4", "split -")...)
	expect(t, p.c, "join", "ok 0102030405")
	expect(t, p.c, "names", "ok")
}
