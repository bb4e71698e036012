package console

import (
	"cullet/api"
	"cullet/engine"
	"cullet/frame"
	"cullet/ring"
)

// poly. ErrText, ErrModulus.
func (c *Console) poly(a *arguments) ([]string, api.Errno) {
	p, fault := ring.Parse(a.word)
	if fault != api.OK {
		return nil, fault
	}
	isPrimitive, fault := ring.Primitive(p)
	if fault != api.OK {
		return nil, fault
	}
	// Primitive takes fewer degrees than Irreducible.
	isIrreducible, _ := ring.Irreducible(p)
	switch {
	case isPrimitive:
		return []string{"primitive"}, api.OK
	case isIrreducible:
		return []string{"irreducible"}, api.OK
	}
	return []string{"reducible"}, api.OK
}

func (c *Console) sum(a *arguments) ([]string, api.Errno) {
	s := frame.Sum(a.bytes)
	highestFirst := []byte{byte(s >> 24), byte(s >> 16), byte(s >> 8), byte(s)}
	return []string{textOf(highestFirst)}, api.OK
}

// schedule is of engines that are made later: the one that is there keeps its own.
func (c *Console) schedule(a *arguments) ([]string, api.Errno) {
	c.scripted, c.picks = !a.free, a.numbers
	return nil, api.OK
}

// newEngine. engine.New's errors.
func (c *Console) newEngine(a *arguments) ([]string, api.Errno) {
	n := a.numbers
	e, fault := engine.New(api.Options{
		Family: a.family, Backend: a.backend, Data: n[0], Parity: n[1],
		Workers: n[2], Stripe: n[3], Cache: n[4],
		Scripted: c.scripted, Picks: c.picks,
	})
	if fault != api.OK {
		return nil, fault
	}
	*c = Console{scripted: c.scripted, picks: c.picks, engine: e}
	return nil, api.OK
}
