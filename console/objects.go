package console

import (
	"cullet/api"
	"cullet/store"
)

// newStore. store.New's errors.
func (c *Console) newStore(a *arguments) ([]string, api.Errno) {
	o, fault := c.engine.Options()
	if fault != api.OK {
		return nil, fault
	}
	s, fault := store.New(o, a.numbers[0], a.numbers[1])
	if fault != api.OK {
		return nil, fault
	}
	c.store = s
	return nil, api.OK
}

func (c *Console) put(a *arguments) ([]string, api.Errno) { return nil, c.store.Put(a.word, a.bytes) }

func (c *Console) get(a *arguments) ([]string, api.Errno) {
	data, fault := c.store.Get(a.word)
	return []string{textOf(data)}, fault
}

func (c *Console) patch(a *arguments) ([]string, api.Errno) {
	return nil, c.store.Patch(a.word, a.numbers[0], a.bytes)
}

func (c *Console) remove(a *arguments) ([]string, api.Errno) { return nil, c.store.Delete(a.word) }

func (c *Console) heal(a *arguments) ([]string, api.Errno) {
	nodes, fault := c.store.Heal(a.word)
	return textsOf(nodes), fault
}

func (c *Console) names(*arguments) ([]string, api.Errno) {
	var names []string
	for name := range c.store.Names() {
		names = append(names, name)
	}
	return names, api.OK
}

func (c *Console) home(a *arguments) ([]string, api.Errno) {
	nodes, fault := c.store.Home(a.word)
	return textsOf(nodes), fault
}

func (c *Console) down(a *arguments) ([]string, api.Errno) { return nil, c.store.Down(a.numbers[0]) }

func (c *Console) up(a *arguments) ([]string, api.Errno) { return nil, c.store.Up(a.numbers[0]) }

func (c *Console) wipe(a *arguments) ([]string, api.Errno) { return nil, c.store.Wipe(a.numbers[0]) }

func (c *Console) hurt(a *arguments) ([]string, api.Errno) {
	return nil, c.store.Spoil(a.numbers[0], a.word, a.numbers[1], a.bytes[0])
}
