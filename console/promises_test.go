package console

import (
	"fmt"
	"slices"
	"strings"
	"testing"
)

// The chapter's and the document's examples, and what the commands promise, asked without the model.

// plays: lines and their answers by turns, by Do and by Run.
func plays(t *testing.T, lines ...string) {
	t.Helper()
	c := New()
	script, answers := "", ""
	for i := 0; i < len(lines); i += 2 {
		expect(t, c, lines[i], lines[i+1])
		script, answers = script+lines[i]+"\n", answers+lines[i+1]+"\n"
	}
	if got := Run(script); got != answers {
		t.Errorf("Run(%q): %q, want %q", script, got, answers)
	}
}

// The chapter's examples.
func TestExamples(t *testing.T) {
	plays(t,
		"engine vander table 2 2 1 64 4", "ok", "split 0100", "ok 1", "encode", "ok", "show 2", "ok 03", "show 3", "ok 02",
		"lose 0 1", "ok", "verify", "error 161", "repair", "ok", "join", "ok 0100",
		"spoil 1 0 ff", "ok", "verify", "ok false", "correct", "ok 1", "show 1", "ok 00",
		"update 0 02", "ok", "verify", "ok true", "show 0", "ok 02", "show 2", "ok 06")
	plays(t, "engine long fast 2 1 3 2 4", "ok", "split 01020304", "ok 2", "encode", "ok", "show 2", "ok 0206")
	plays(t, "engine cauchy sliced 2 1 1 64 4", "ok", "split 0100", "ok 1", "encode", "ok", "show 2", "ok 8e")
	plays(t,
		"poly x^8+x^4+x^3+x^2+1", "ok primitive", "poly x^2+1", "ok reducible", "poly x^4+x^3+x^2+x+1", "ok irreducible", "poly 1+x", "error 13", "poly 1", "error 11",
		"encode", "error 272", "fly", "error 270", "split 0", "error 271", "", "",
		"lose", "error 271", "engine vander fast 2 2 1 64 4", "error 3", "engine vander table 0 2 1 64 4", "error 4",
		"sum 61", "ok e8b7be43", "sum 313233343536373839", "ok cbf43926", "sum -", "ok 00000000")
}

// The document's examples of the whole, as far as lines can say them.
func TestDocumentExamples(t *testing.T) {
	plays(t,
		"engine vander nibble 2 1 3 1 4", "ok", "split 05000701", "ok 2", "encode", "ok", "show 2", "ok 0102", "verify", "ok true",
		"spoil 1 1 80", "ok", "verify", "ok false", "spoil 1 1 80", "ok", "verify", "ok true",
		"lose 0", "ok", "repair", "ok", "show 0", "ok 0500",
		"lose 1 2", "ok", "repair", "error 9", "show 0", "ok 0500", "show 1", "ok -", "lose 0", "ok", "repair", "error 161", "join", "error 161",
		"split 05000701", "ok 2", "encode", "ok", "update 1 0601", "ok", "show 2", "ok 0302", "show 0", "ok 0500", "verify", "ok true", "join", "ok 05000601")
	plays(t,
		"engine vander table 1 2 1 1 1", "ok", "split 0501", "ok 2", "encode", "ok", "show 2", "ok 0501",
		"spoil 1 1 03", "ok", "spoil 2 0 03", "ok", "spoil 2 1 03", "ok", "spoil 0 1 00", "ok", "show 1", "ok 0502", "show 2", "ok 0602", "correct", "ok 0 2", "show 0", "ok 0502", "show 2", "ok 0502")
	plays(t,
		"engine vander table 2 1 1 64 4", "ok", "store 16 4", "ok", "home a", "ok 3 0 1", "put a 07", "ok", "down 3", "ok", "put a 08", "ok", "up 3", "ok",
		"down 0", "ok", "get a", "error 9", "up 0", "ok", "get a", "ok 08", "heal a", "ok 3", "heal a", "ok", "names", "ok a", "delete a", "ok", "get a", "error 263", "names", "ok")
}

// code: an engine's line.
type code struct {
	family, backend string
	k, m            int
	workers, stripe int
	picks           string
}

func (c code) lines() []string {
	return []string{"picks" + c.picks, fmt.Sprintf("engine %s %s %d %d %d %d 3", c.family, c.backend, c.k, c.m, c.workers, c.stripe)}
}

func codes() []code {
	var list []code
	ways := []struct {
		workers, stripe int
		picks           string
	}{{1, 64, " free"}, {3, 1, " free"}, {2, 3, ""}, {4, 2, " 1 -2 3 0 5 -7"}, {64, 16777216, " 9"}}
	for n, backend := range []string{"table", "nibble", "sliced", "direct", "fast"} {
		families := []string{"vander", "cauchy"}
		if n > 2 {
			families = []string{"long"}
		}
		for _, f := range families {
			for _, s := range [][2]int{{1, 1}, {2, 1}, {1, 2}, {2, 2}, {3, 2}, {2, 3}} {
				for _, w := range ways {
					list = append(list, code{f, backend, s[0], s[1], w.workers, w.stripe, w.picks})
				}
			}
		}
	}
	return list
}

// choices: all lists of at most so many of the numbers below n.
func choices(n, most int) [][]int {
	lists := [][]int{nil}
	for i := range n {
		for _, list := range slices.Clone(lists) {
			if len(list) < most {
				lists = append(lists, append(slices.Clone(list), i))
			}
		}
	}
	return lists
}

// losing: the lines that lose these shards.
func losing(lost []int) []string {
	if len(lost) == 0 {
		return nil
	}
	return []string{"lose " + strings.Trim(fmt.Sprint(lost), "[]")}
}

// good: the lines are answered ok, whatever stands behind it.
func good(t *testing.T, c *Console, lines ...string) {
	t.Helper()
	for _, line := range lines {
		if got := c.Do(line); got != "ok" && !strings.HasPrefix(got, "ok ") {
			t.Fatalf("%s: %s", short(line), short(got))
		}
	}
}

// (P27.3) Behind split and encode, losing no more than m shards and repair, join answers the bytes that were split: every loss of small codes.
func TestEveryLoss(t *testing.T) {
	d := dice(21)
	for _, s := range codes() {
		c := New()
		good(t, c, s.lines()...)
		for _, lost := range choices(s.k+s.m, s.m) {
			for _, n := range []int{1, 1 + d.next(40)} {
				text := fmt.Sprintf("%x", d.bytes(n))
				good(t, c, "split "+text, "encode")
				good(t, c, losing(lost)...)
				good(t, c, "repair")
				expect(t, c, "join", "ok "+text)
				expect(t, c, "verify", "ok true")
				good(t, c, losing(lost)...)
				good(t, c, "repairdata")
				expect(t, c, "join", "ok "+text)
			}
		}
		// One shard more than the code can give back is an error, which changes nothing.
		good(t, c, "split 0102", "encode")
		good(t, c, losing(slices.Repeat([]int{0}, 3))...)
		for i := range s.m {
			good(t, c, fmt.Sprintf("lose %d", s.k+i))
		}
		want := "error 9"
		if s.k == 1 {
			want = "error 161"
		}
		expect(t, c, "repair", want)
		expect(t, c, "show 0", "ok -")
	}
}

// (P27.3) Great codes, with thrown losses.
func TestGreatCodes(t *testing.T) {
	d := dice(22)
	for _, s := range []code{
		{"vander", "table", 128, 128, 4, 1, " free"}, {"vander", "sliced", 10, 4, 3, 7, " 2 1 -5"}, {"vander", "nibble", 200, 3, 2, 64, ""},
		{"cauchy", "nibble", 17, 5, 3, 2, " free"}, {"cauchy", "sliced", 255, 1, 2, 1, " -1"}, {"cauchy", "table", 1, 255, 1, 1, " free"},
		{"long", "fast", 300, 17, 4, 2, " free"}, {"long", "direct", 100, 30, 3, 1, " 1 2 3"}, {"long", "fast", 5, 1000, 2, 4, ""},
	} {
		for range 5 {
			c := New()
			good(t, c, s.lines()...)
			text := fmt.Sprintf("%x", d.bytes(1+d.next(3000)))
			good(t, c, "split "+text, "encode")
			var lost []int
			for range s.m {
				lost = append(lost, d.next(s.k+s.m))
			}
			good(t, c, losing(lost)...)
			for _, i := range lost {
				expect(t, c, fmt.Sprintf("show %d", i), "ok -")
			}
			good(t, c, "repair")
			expect(t, c, "join", "ok "+text)
			expect(t, c, "verify", "ok true")
		}
	}
}

// A stream writes what encode writes, whatever the block and the chunk are; and an error of it leaves all shards as they are.
func TestStreamIsEncode(t *testing.T) {
	d := dice(23)
	for _, s := range codes() {
		text := fmt.Sprintf("%x", d.bytes(1+d.next(20)))
		a, b := New(), New()
		good(t, a, s.lines()...)
		good(t, b, s.lines()...)
		good(t, a, "split "+text, "encode")
		good(t, b, "split "+text)
		for j := range s.m {
			good(t, b, fmt.Sprintf("spoil %d 0 %02x", s.k+j, 1+d.next(255)))
		}
		shown := func(c *Console) string {
			all := ""
			for i := range s.k + s.m {
				all += c.Do(fmt.Sprintf("show %d", i)) + "\n"
			}
			return all
		}
		was := shown(b)
		expect(t, b, "stream 0 1", "error 241")
		expect(t, b, "stream 1048577 1", "error 241")
		expect(t, b, "stream 2 0", "error 240")
		if s.family == "long" {
			expect(t, b, "stream 3 1", "error 241")
		}
		if shown(b) != was {
			t.Errorf("%v: a stream that is refused changes shards", s)
		}
		for _, block := range []int{2, 4, 20, 1 << 20} {
			for _, chunk := range []string{"1", "2", "7", "999999999999999999"} {
				good(t, b, fmt.Sprintf("stream %d %s", block, chunk))
				if got, want := shown(b), shown(a); got != want {
					t.Errorf("%v, block %d, chunk %s: %q, want %q", s, block, chunk, got, want)
				}
				good(t, b, fmt.Sprintf("spoil %d 0 %02x", s.k+d.next(s.m), 1+d.next(255)))
			}
		}
	}
}

// A stream asks for every shard ahead of all else, for the parity shards too.
func TestStreamEmpty(t *testing.T) {
	for i := range 4 {
		c := New()
		good(t, c, "engine vander table 2 2 1 64 4", "split 01020304", "encode", fmt.Sprintf("lose %d", i))
		for _, line := range []string{"stream 1 1", "stream 0 0", "stream 1 0", "stream 1048577 1"} {
			expect(t, c, line, "error 161")
		}
	}
}

// Update turns one data shard, and the parity with it.
func TestUpdate(t *testing.T) {
	d := dice(24)
	for _, s := range codes() {
		c := New()
		good(t, c, s.lines()...)
		good(t, c, "split "+strings.Repeat("0", 4*2*s.k), "encode")
		for range 5 {
			i, text := d.next(s.k), fmt.Sprintf("%x", d.bytes(4))
			good(t, c, fmt.Sprintf("update %d %s", i, text))
			expect(t, c, fmt.Sprintf("show %d", i), "ok "+text)
			expect(t, c, "verify", "ok true")
			good(t, c, fmt.Sprintf("update %d -", i))
			expect(t, c, fmt.Sprintf("show %d", i), "ok "+text)
			expect(t, c, "verify", "ok true")
			expect(t, c, fmt.Sprintf("update %d %s00", i, text), "error 162")
			expect(t, c, fmt.Sprintf("update %d %s", s.k, text), "error 7")
			expect(t, c, fmt.Sprintf("show %d", i), "ok "+text)
		}
		good(t, c, fmt.Sprintf("lose %d", s.k))
		expect(t, c, "update 0 -", "error 161")
		expect(t, c, "update 0 00000000", "error 161")
	}
}

// The keys of the cache, the last used one first, each with a comma between its numbers.
func TestCached(t *testing.T) {
	plays(t,
		"cached", "error 272", "engine cauchy table 3 2 1 64 2", "ok", "cached", "ok", "split 010203", "ok 1", "encode", "ok",
		"lose 4 0", "ok", "cached", "ok", "repair", "ok", "cached", "ok 0,4",
		"lose 2", "ok", "repairdata", "ok", "cached", "ok 2 0,4",
		"repair", "ok", "cached", "ok 2 0,4", "lose 4", "ok", "repairdata", "ok", "cached", "ok 4 2", "split 01", "ok 1", "cached", "ok 4 2",
		"engine long fast 3 2 1 64 2", "ok", "split 010203", "ok 2", "encode", "ok", "lose 0", "ok", "repair", "ok", "cached", "ok")
}

// A schedule is of the engines that are made behind it; and the store has its engine's options.
func TestSchedule(t *testing.T) {
	c := New()
	ask := func() string {
		o, _ := c.engine.Options()
		return fmt.Sprint(o.Scripted, o.Picks)
	}
	line := "engine vander table 2 1 3 1 4"
	for _, step := range [][2]string{
		{"", "false []"}, {"picks 2 -1 0", "true [2 -1 0]"}, {"picks", "true []"}, {"picks free", "false []"}, {"picks 5", "true [5]"}, {"picks x", "true [5]"}, {"picks -0", "true [5]"}, {"picks free 1", "true [5]"}, {"picks 6 01", "true [5]"}, {line, "true [5]"}, {"picks free", "false []"},
	} {
		if c.engine != nil {
			was := ask()
			c.Do(step[0])
			if got := ask(); got != was {
				t.Errorf("%q changes the engine that is there: %s", step[0], got)
			}
		} else {
			c.Do(step[0])
		}
		good(t, c, line)
		if got := ask(); got != step[1] {
			t.Errorf("behind %q the schedule is %s, want %s", step[0], got, step[1])
		}
	}
}

// poly tells of every polynomial of a degree to 8 what there are of them: as many primitive and irreducible ones as the theory of finite fields counts.
func TestPoly(t *testing.T) {
	irreducible := []int{0, 2, 1, 2, 3, 6, 9, 18, 30}
	primitive := []int{0, 1, 1, 2, 2, 6, 6, 18, 16}
	c := New()
	for degree := 1; degree <= 8; degree++ {
		count := map[string]int{}
		for p := 1 << degree; p < 2<<degree; p++ {
			var terms []string
			for i := degree; i >= 0; i-- {
				if p>>i&1 == 1 {
					terms = append(terms, map[int]string{0: "1", 1: "x"}[min(i, 2)]+map[bool]string{true: fmt.Sprintf("x^%d", i)}[i > 1])
				}
			}
			count[c.Do("poly "+strings.Join(terms, "+"))]++
		}
		total := count["ok primitive"] + count["ok irreducible"]
		if count["ok primitive"] != primitive[degree] || total != irreducible[degree] || total+count["ok reducible"] != 1<<degree {
			t.Errorf("degree %d: %v", degree, count)
		}
	}
	for text, want := range map[string]string{
		"x": "ok irreducible", "x+1": "ok primitive", "x^16+x^5+x^3+x^2+1": "ok primitive", "x^16": "ok reducible",
		"0": "error 11", "1": "error 11", "x^17": "error 11", "x^32+1": "error 11", "x^63": "error 11", "x^64": "error 13", "": "error 271",
		"x^1": "error 13", "x+": "error 13", "X": "error 13", "-": "error 13", "11d": "error 13", "x+x": "error 13",
	} {
		expect(t, c, "poly "+text, want)
	}
}

// The store's commands, each with its answer.
func TestStoreLines(t *testing.T) {
	plays(t,
		"store 16 4", "error 272", "engine vander table 2 1 1 64 4", "ok", "store 15 4", "error 241", "store 16 2", "error 260", "store 16 65", "error 260", "put a 07", "error 272",
		"store 16 4", "ok", "names", "ok", "get a", "error 263", "put a -", "error 163", "put a 070809", "ok", "put - 01", "ok", "put free 02", "ok", "names", "ok - a free",
		"patch a 1 ff", "ok", "get a", "ok 07ff09", "patch a 3 -", "ok", "patch a 3 00", "error 265", "patch a 4 -", "error 265", "patch q 0 00", "error 263", "patch a -1 00", "error 271",
		"delete -", "ok", "delete -", "error 263", "get -", "error 263", "names", "ok a free",
		"hurt 0 a 5 01", "ok", "hurt 2 a 5 01", "error 263", "hurt 4 a 5 01", "error 261", "hurt 0 a 9999 01", "error 265", "get a", "ok 07ff09", "heal a", "ok 0", "heal a", "ok", "heal q", "error 263",
		"wipe 3", "ok", "wipe 4", "error 261", "heal a", "ok 3", "down 3", "ok", "down 3", "ok", "down 4", "error 261", "up 4", "error 261", "down 0", "ok", "get a", "error 264", "put a 01", "error 264", "delete a", "error 264", "up 0", "ok", "up 0", "ok", "get a", "ok 07ff09",
		"split 0102", "ok 1", "get a", "ok 07ff09", "store 16 5", "ok", "get a", "error 263", "join", "ok 0102", "store 15 5", "error 241", "names", "ok", "home a", "ok 2 3 4")
	plays(t, "engine long direct 1 1 1 64 4", "ok", "store 17 4", "error 241", "store 18 2", "ok", "home a", "ok 1 0", "put a 070809", "ok", "down 0", "ok", "get a", "ok 070809", "put b 01", "error 264")
}
