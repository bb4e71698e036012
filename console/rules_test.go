package console

import (
	"errors"
	"fmt"
	"runtime"
	"strings"
	"sync"
	"testing"
	"time"

	"cullet/api"
)

// P1 and the document's rules.

// A nil console answers the empty text to every line.
func TestNilConsole(t *testing.T) {
	var none *Console
	for _, line := range append(everyLine(), "", " ", "fly", "\x00", "\n") {
		if got := none.Do(line); got != "" {
			t.Errorf("%q of a nil console: %q", line, got)
		}
	}
}

// New answers a console, each time another one, on which nothing is there.
func TestNew(t *testing.T) {
	a, b := New(), New()
	if a == nil || b == nil || a == b {
		t.Fatalf("New: %p, %p", a, b)
	}
	good(t, a, coded...)
	good(t, a, "picks 1 2 3")
	expect(t, b, "cached", "error 272")
	expect(t, b, "names", "error 272")
	newPair(t, coded[0]).settled()
}

// The calls of a zero struct and of a copy of a console end, and don't panic.
func TestOtherConsoles(t *testing.T) {
	c := New()
	good(t, c, coded...)
	for _, line := range everyLine() {
		other := *c
		other.Do(line)
		(&Console{}).Do(line)
	}
}

// The table has the chapter's commands, each once.
func TestTable(t *testing.T) {
	seen := map[string]int{}
	for _, row := range commands() {
		seen[row.name]++
	}
	for name := range kinds {
		if seen[name] != 1 {
			t.Errorf("%s stands %d times in the table", name, seen[name])
		}
	}
	if len(seen) != len(kinds) {
		t.Errorf("%d commands", len(seen))
	}
}

// A panic that no line should come to is told as one; an error that is no Errno too.
func TestFaults(t *testing.T) {
	if got := faultOf(api.ErrArgs); got != api.ErrArgs {
		t.Errorf("giving up with ErrArgs: %d", got)
	}
	for _, given := range []any{"lost", errors.New("lost"), 7} {
		if got := faultOf(given); got != api.ErrPanic {
			t.Errorf("a panic with %v: %d", given, got)
		}
	}
	if got := errnoOf(errors.New("lost")); got != api.ErrPanic {
		t.Errorf("an error that is no Errno: %d", got)
	}
	if got := errnoOf(api.ErrBlock); got != api.ErrBlock {
		t.Errorf("ErrBlock of a stream: %d", got)
	}
}

// An answer depends on the lines alone: the same script is answered the same again and again, at one time too, with workers that run freely.
func TestSameAgain(t *testing.T) {
	d := dice(31)
	for range 10 {
		script := strings.Join(story(&d, 80), "\n")
		want := Run(script)
		var group sync.WaitGroup
		answers := make([]string, 6)
		for i := range answers {
			group.Go(func() { answers[i] = Run(script) })
		}
		group.Wait()
		for _, got := range answers {
			if got != want {
				t.Fatalf("Run(%q): %q, and again %q", script, want, got)
			}
		}
	}
}

// Whatever the family's backend, the workers, the stripe, the cache and the schedule are: all answers but those of cached are the same.
func TestSameForAllBackends(t *testing.T) {
	d := dice(32)
	for _, backends := range [][]string{{"vander table", "vander nibble", "vander sliced"}, {"cauchy table", "cauchy nibble", "cauchy sliced"}, {"long direct", "long fast"}} {
		for range 20 {
			k, m := 1+d.next(4), 1+d.next(3)
			lines := []string{fmt.Sprintf("split %x", d.bytes(1+d.next(30))), "encode", "store 16 8"}
			for range 60 {
				line := draw(&d)
				if !strings.HasPrefix(line, "engine") && line != "cached" {
					lines = append(lines, line)
				}
			}
			answers := ""
			for i, b := range backends {
				c := New()
				good(t, c, "picks"+oneOf(&d, " free", "", " 1 -3 2"))
				good(t, c, fmt.Sprintf("engine %s %d %d %d %d %d", b, k, m, 1+d.next(5), 1+d.next(9), 1+d.next(5)))
				got := ""
				for _, line := range lines {
					got += c.Do(line) + "\n"
				}
				if i > 0 && got != answers {
					t.Fatalf("%s %d %d, %q: %q, want %q", b, k, m, lines, got, answers)
				}
				answers = got
			}
		}
	}
}

// All goroutines have ended when a script is answered, be its workers free or scripted.
func TestNoGoroutineStays(t *testing.T) {
	before := runtime.NumGoroutine()
	for _, picks := range []string{"free", "1 2 3 -1"} {
		for _, engine := range []string{"vander table 3 2 5 1 4", "long fast 3 2 7 2 4"} {
			good(t, New(), "picks "+picks, "engine "+engine, "split "+strings.Repeat("07", 204), "encode", "stream 4 3", "lose 0 4", "repair", "verify", "update 1 "+strings.Repeat("05", 68), "store 16 6", "put a 010203", "heal a")
		}
	}
	deadline := time.Now().Add(5 * time.Second)
	for runtime.NumGoroutine() > before && time.Now().Before(deadline) {
		time.Sleep(time.Millisecond)
	}
	if now := runtime.NumGoroutine(); now > before {
		t.Errorf("%d goroutines stay", now-before)
	}
}

// What a line had is not written over by later ones: shards, objects and answers stay what they were.
func TestLinesApart(t *testing.T) {
	c := New()
	good(t, c, "engine vander table 2 1 1 64 4", "store 16 4", "split 01020304", "encode")
	shown := c.Do("show 0")
	good(t, c, "put a 0102", "spoil 0 0 ff", "update 0 0909", "spoil 0 1 ff", "split 0a0b")
	if shown != "ok 0102" {
		t.Errorf("an answer has become %q", shown)
	}
	expect(t, c, "get a", "ok 0102")
	expect(t, c, "show 0", "ok 0a")
	expect(t, c, "spoil 1 0 01", "ok")
	expect(t, c, "show 0", "ok 0a")
	expect(t, c, "join", "ok 0a0a")
}
