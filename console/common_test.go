package console

import (
	"encoding/hex"
	"fmt"
	"hash/crc32"
	"regexp"
	"strconv"
	"strings"
	"testing"

	"cullet/api"
	"cullet/engine"
	"cullet/ring"
	"cullet/store"
)

// What the tests hold the package against: a model that follows the chapter's words, without a call of the package. Its forms are patterns over the line's words, its table is a switch. What the chapter says by calls of the layers below the model asks of an engine and a store of its own; streams it works out without layer 24.

// model is a console, by the chapter.
type model struct {
	scripted bool
	picks    []int
	options  api.Options
	engine   *engine.Engine
	shards   [][]byte
	size     int
	store    *store.Store
}

// The patterns of one argument.
const (
	number  = `(0|[1-9][0-9]{0,17})`
	signed  = `(0|-?[1-9][0-9]{0,17})`
	octets  = `(-|([0-9a-f]{2})+)`
	octet   = `[0-9a-f]{2}`
	word    = `[^ ]+`
	family  = `(vander|cauchy|long)`
	backend = `(table|nibble|sliced|direct|fast)`
)

// What a command works on.
const (
	onNothing = iota
	onEngine
	onShards
	onStore
)

type kind struct {
	form []string // a pattern each argument; a last one that ends in .. may stand any number of times
	on   int
}

var kinds = map[string]kind{
	"poly":       {[]string{word}, onNothing},
	"sum":        {[]string{octets}, onNothing},
	"picks":      {[]string{"free|" + signed + ".."}, onNothing},
	"engine":     {[]string{family, backend, number, number, number, number, number}, onNothing},
	"split":      {[]string{octets}, onEngine},
	"encode":     {nil, onShards},
	"stream":     {[]string{number, number}, onShards},
	"verify":     {nil, onShards},
	"lose":       {[]string{number, number + ".."}, onShards},
	"spoil":      {[]string{number, number, octet}, onShards},
	"repair":     {nil, onShards},
	"repairdata": {nil, onShards},
	"correct":    {nil, onShards},
	"update":     {[]string{number, octets}, onShards},
	"join":       {nil, onShards},
	"show":       {[]string{number}, onShards},
	"cached":     {nil, onEngine},
	"store":      {[]string{number, number}, onEngine},
	"put":        {[]string{word, octets}, onStore},
	"get":        {[]string{word}, onStore},
	"patch":      {[]string{word, number, octets}, onStore},
	"delete":     {[]string{word}, onStore},
	"heal":       {[]string{word}, onStore},
	"names":      {nil, onStore},
	"home":       {[]string{word}, onStore},
	"down":       {[]string{number}, onStore},
	"up":         {[]string{number}, onStore},
	"wipe":       {[]string{number}, onStore},
	"hurt":       {[]string{number, word, number, octet}, onStore},
}

// pattern: of the whole of the arguments, each with a blank ahead.
func (k kind) pattern() string {
	text := ""
	for _, one := range k.form {
		switch {
		case strings.HasPrefix(one, "free|"):
			text += "( free|( " + strings.TrimSuffix(one[5:], "..") + ")*)"
		case strings.HasSuffix(one, ".."):
			text += "( " + strings.TrimSuffix(one, "..") + ")*"
		default:
			text += " " + one
		}
	}
	return "^" + text + "$"
}

var patterns = func() map[string]*regexp.Regexp {
	made := map[string]*regexp.Regexp{}
	for name, k := range kinds {
		made[name] = regexp.MustCompile(k.pattern())
	}
	return made
}()

var pieces = regexp.MustCompile(word)

func failed(fault api.Errno) string { return fmt.Sprintf("error %d", fault) }

// okay: the answer with these items, or the error's.
func okay(fault api.Errno, items ...any) string {
	if fault != api.OK {
		return failed(fault)
	}
	answer := "ok"
	for _, item := range items {
		switch x := item.(type) {
		case []byte:
			text := hex.EncodeToString(x)
			if len(x) == 0 {
				text = "-"
			}
			answer += " " + text
		case []int:
			for _, n := range x {
				answer += fmt.Sprintf(" %d", n)
			}
		default:
			answer += fmt.Sprintf(" %v", x)
		}
	}
	return answer
}

// do is 'Do' of the chapter.
func (m *model) do(line string) string {
	words := pieces.FindAllString(line, -1)
	if len(words) == 0 {
		return ""
	}
	k, known := kinds[words[0]]
	var behind strings.Builder
	for _, w := range words[1:] {
		behind.WriteString(" " + w)
	}
	there := []bool{true, m.engine != nil, m.engine != nil && m.shards != nil, m.store != nil}
	switch {
	case !known:
		return failed(api.ErrWord)
	case !patterns[words[0]].MatchString(behind.String()):
		return failed(api.ErrArgs)
	case !there[k.on]:
		return failed(api.ErrLate)
	case k.on == onNothing || words[0] == "store":
		return m.makes(words[0], words[1:])
	case k.on == onStore:
		return m.keeps(words[0], words[1:])
	}
	return m.codes(words[0], words[1:])
}

// runModel is 'Run' of the chapter.
func runModel(script string) string {
	var lines []string
	var line []byte
	for _, b := range []byte(script) {
		if b == 10 {
			lines, line = append(lines, string(line)), nil
			continue
		}
		line = append(line, b)
	}
	if len(line) > 0 {
		lines = append(lines, string(line))
	}
	if len(script) > 65536 || len(lines) > 512 {
		return "error 273\n"
	}
	m := &model{}
	var answers strings.Builder
	for _, l := range lines {
		answers.WriteString(m.do(l) + "\n")
	}
	return answers.String()
}

func whole(word string) int {
	n, err := strconv.Atoi(word)
	if err != nil {
		panic(err)
	}
	return n
}

func unhex(word string) []byte {
	if word == "-" {
		return nil
	}
	list, err := hex.DecodeString(word)
	if err != nil {
		panic(err)
	}
	return list
}

func (m *model) makes(command string, a []string) string {
	switch command {
	case "poly":
		return polyAnswer(a[0])
	case "sum":
		return fmt.Sprintf("ok %08x", crc32.ChecksumIEEE(unhex(a[0])))
	case "picks":
		m.picks, m.scripted = nil, true
		for _, w := range a {
			if w == "free" {
				m.scripted = false
				continue
			}
			m.picks = append(m.picks, whole(w))
		}
		return "ok"
	case "store":
		s, fault := store.New(m.options, whole(a[0]), whole(a[1]))
		if fault == api.OK {
			m.store = s
		}
		return okay(fault)
	}
	o := api.Options{
		Family:   map[string]api.Family{"vander": api.Vander, "cauchy": api.Cauchy, "long": api.Long}[a[0]],
		Backend:  map[string]api.Backend{"table": api.Table, "nibble": api.Nibble, "sliced": api.Sliced, "direct": api.Direct, "fast": api.Fast}[a[1]],
		Data:     whole(a[2]),
		Parity:   whole(a[3]),
		Workers:  whole(a[4]),
		Stripe:   whole(a[5]),
		Cache:    whole(a[6]),
		Scripted: m.scripted,
		Picks:    m.picks,
	}
	e, fault := engine.New(o)
	if fault == api.OK {
		m.options, m.engine, m.shards, m.store = o, e, nil, nil
	}
	return okay(fault)
}

func polyAnswer(text string) string {
	p, fault := ring.Parse(text)
	if fault != api.OK {
		return failed(api.ErrText)
	}
	if p < 2 || p >= 1<<17 {
		return failed(api.ErrModulus)
	}
	primitive, _ := ring.Primitive(p)
	irreducible, _ := ring.Irreducible(p)
	switch {
	case primitive:
		return "ok primitive"
	case irreducible:
		return "ok irreducible"
	}
	return "ok reducible"
}

// codes: the commands over the engine and the shards.
func (m *model) codes(command string, a []string) string {
	var i int
	if command == "lose" || command == "spoil" || command == "update" || command == "show" {
		i = whole(a[0])
	}
	switch command {
	case "split":
		shards, fault := m.engine.Split(unhex(a[0]))
		if fault != api.OK {
			return failed(fault)
		}
		m.shards, m.size = shards, len(unhex(a[0]))
		return okay(fault, len(shards[m.options.Data]))
	case "encode":
		return okay(m.engine.Encode(m.shards))
	case "stream":
		return m.streams(whole(a[0]), whole(a[1]))
	case "verify":
		good, fault := m.engine.Verify(m.shards)
		return okay(fault, good)
	case "lose":
		for _, w := range a {
			if whole(w) >= m.options.Data+m.options.Parity {
				return failed(api.ErrRange)
			}
		}
		for _, w := range a {
			m.shards[whole(w)] = nil
		}
		return "ok"
	case "spoil":
		if i >= m.options.Data+m.options.Parity || whole(a[1]) >= len(m.shards[i]) {
			return failed(api.ErrRange)
		}
		m.shards[i][whole(a[1])] ^= unhex(a[2])[0]
		return "ok"
	case "repair":
		return okay(m.engine.Reconstruct(m.shards))
	case "repairdata":
		return okay(m.engine.ReconstructData(m.shards))
	case "correct":
		told, fault := m.engine.Correct(m.shards)
		return okay(fault, told)
	case "update":
		return m.updates(i, unhex(a[1]))
	case "join":
		data, fault := m.engine.Join(m.shards, m.size)
		return okay(fault, data)
	case "show":
		if i >= m.options.Data+m.options.Parity {
			return failed(api.ErrRange)
		}
		return okay(api.OK, m.shards[i])
	}
	answer := "ok" // cached
	for _, key := range m.engine.Cached() {
		answer += " " + strings.Trim(strings.ReplaceAll(fmt.Sprint(key), " ", ","), "[]")
	}
	return answer
}

// streams: P24.4 over sources that don't break, of one length.
func (m *model) streams(block, chunk int) string {
	for _, shard := range m.shards {
		if len(shard) == 0 {
			return failed(api.ErrEmpty)
		}
	}
	isOdd := m.options.Family == api.Long && block%2 == 1
	switch {
	case block < 1 || block > 1<<20 || isOdd || len(m.shards)*block > 1<<26:
		return failed(api.ErrBlock)
	case chunk == 0:
		return failed(api.ErrShort)
	}
	return okay(m.engine.Encode(m.shards))
}

func (m *model) updates(i int, data []byte) string {
	if i >= m.options.Data {
		return failed(api.ErrRange)
	}
	fresh := make([][]byte, m.options.Data)
	fresh[i] = data
	fault := m.engine.Update(m.shards, fresh)
	if fault == api.OK && len(data) > 0 {
		m.shards[i] = data
	}
	return okay(fault)
}

// keeps: the commands over the store.
func (m *model) keeps(command string, a []string) string {
	switch command {
	case "put":
		return okay(m.store.Put(a[0], unhex(a[1])))
	case "get":
		data, fault := m.store.Get(a[0])
		return okay(fault, data)
	case "patch":
		return okay(m.store.Patch(a[0], whole(a[1]), unhex(a[2])))
	case "delete":
		return okay(m.store.Delete(a[0]))
	case "heal":
		nodes, fault := m.store.Heal(a[0])
		return okay(fault, nodes)
	case "names":
		answer := "ok"
		m.store.Names()(func(name string) bool {
			answer += " " + name
			return true
		})
		return answer
	case "home":
		nodes, fault := m.store.Home(a[0])
		return okay(fault, nodes)
	case "down":
		return okay(m.store.Down(whole(a[0])))
	case "up":
		return okay(m.store.Up(whole(a[0])))
	case "wipe":
		return okay(m.store.Wipe(whole(a[0])))
	}
	return okay(m.store.Spoil(whole(a[0]), a[1], whole(a[2]), unhex(a[3])[0])) // hurt
}

// pair is a console with its model; both are told the same lines.
type pair struct {
	t    *testing.T
	c    *Console
	m    *model
	told []string
}

func newPair(t *testing.T, lines ...string) *pair {
	t.Helper()
	p := &pair{t: t, c: New(), m: &model{}}
	for _, line := range lines {
		p.tell(line)
	}
	return p
}

// short: a text, cut where it is very long.
func short(text string) string {
	if len(text) > 300 {
		return fmt.Sprintf("%q .. (%d bytes)", text[:300], len(text))
	}
	return fmt.Sprintf("%q", text)
}

// tell: the answer, which both give.
func (p *pair) tell(line string) string {
	p.t.Helper()
	got := p.ask(line)
	p.told = append(p.told, line)
	return got
}

// ask: tell, of a line that changes nothing.
func (p *pair) ask(line string) string {
	p.t.Helper()
	got, want := p.c.Do(line), p.m.do(line)
	if got != want {
		p.t.Fatalf("behind %q, %s is answered %s, it is to be %s", p.told, short(line), short(got), short(want))
	}
	return got
}

// settled: both hold the same. (What no line asks for is looked at itself.)
func (p *pair) settled() {
	p.t.Helper()
	if p.c.scripted != p.m.scripted || fmt.Sprint(p.c.picks) != fmt.Sprint(p.m.picks) {
		p.t.Fatalf("behind %q the schedule is %v %v, it is to be %v %v", p.told, p.c.scripted, p.c.picks, p.m.scripted, p.m.picks)
	}
	p.ask("cached")
	for i := range p.m.shards {
		p.ask("show " + strconv.Itoa(i))
	}
	p.ask("join")
	p.ask("names")
	if p.m.engine != nil {
		got, _ := p.c.engine.Options()
		want, _ := p.m.engine.Options()
		if fmt.Sprint(got) != fmt.Sprint(want) {
			p.t.Fatalf("behind %q the engine's options are %v, they are to be %v", p.told, got, want)
		}
	}
	if p.m.store == nil {
		return
	}
	for _, name := range []string{"a", "b", "-", "free", "\xff"} {
		for node := range api.MaxNodes {
			got, _ := p.c.store.File(node, name)
			want, _ := p.m.store.File(node, name)
			if string(got) != string(want) {
				p.t.Fatalf("behind %q the node %d keeps %x under %q, it is to keep %x", p.told, node, got, name, want)
			}
		}
	}
}

// expect: one line with the answer that a text of the document gives.
func expect(t *testing.T, c *Console, line, want string) {
	t.Helper()
	if got := c.Do(line); got != want {
		t.Errorf("%s: %s, want %s", short(line), short(got), short(want))
	}
}

// dice: numbers that look like no pattern.
type dice uint64

func (d *dice) next(n int) int {
	*d = *d*6364136223846793005 + 1442695040888963407
	return int(uint64(*d) >> 33 % uint64(n))
}

func (d *dice) bytes(n int) []byte {
	list := make([]byte, n)
	for i := range list {
		list[i] = byte(d.next(256))
	}
	return list
}

func oneOf[T any](d *dice, list ...T) T { return list[d.next(len(list))] }
