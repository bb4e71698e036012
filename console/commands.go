package console

import "cullet/api"

// command is a row of the chapter's table.
type command struct {
	name string
	form []part
	on   func(*Console) bool // is what it works on there? nil: it works on nothing
	do   func(*Console, *arguments) ([]string, api.Errno)
}

// commands: the table of all there are. It is made here, since no function stands in a table at package level.
func commands() []command {
	var (
		number = (*arguments).takeNumber
		word   = (*arguments).takeWord
		bytes  = (*arguments).takeBytes
		single = (*arguments).takeByte
		code   = []part{(*arguments).takeFamily, (*arguments).takeBackend, number, number, number, number, number}

		onEngine = (*Console).hasEngine
		onShards = (*Console).hasShards
		onStore  = (*Console).hasStore
	)
	return []command{
		{"poly", []part{word}, nil, (*Console).poly},
		{"sum", []part{bytes}, nil, (*Console).sum},
		{"picks", []part{(*arguments).takePicks}, nil, (*Console).schedule},
		{"engine", code, nil, (*Console).newEngine},
		{"split", []part{bytes}, onEngine, (*Console).split},
		{"encode", nil, onShards, (*Console).encode},
		{"stream", []part{number, number}, onShards, (*Console).encodeStreams},
		{"verify", nil, onShards, (*Console).verify},
		{"lose", []part{(*arguments).takeNumbers}, onShards, (*Console).lose},
		{"spoil", []part{number, number, single}, onShards, (*Console).spoil},
		{"repair", nil, onShards, (*Console).repair},
		{"repairdata", nil, onShards, (*Console).repairData},
		{"correct", nil, onShards, (*Console).correct},
		{"update", []part{number, bytes}, onShards, (*Console).update},
		{"join", nil, onShards, (*Console).join},
		{"show", []part{number}, onShards, (*Console).show},
		{"cached", nil, onEngine, (*Console).cached},
		{"store", []part{number, number}, onEngine, (*Console).newStore},
		{"put", []part{word, bytes}, onStore, (*Console).put},
		{"get", []part{word}, onStore, (*Console).get},
		{"patch", []part{word, number, bytes}, onStore, (*Console).patch},
		{"delete", []part{word}, onStore, (*Console).remove},
		{"heal", []part{word}, onStore, (*Console).heal},
		{"names", nil, onStore, (*Console).names},
		{"home", []part{word}, onStore, (*Console).home},
		{"down", []part{number}, onStore, (*Console).down},
		{"up", []part{number}, onStore, (*Console).up},
		{"wipe", []part{number}, onStore, (*Console).wipe},
		{"hurt", []part{number, word, number, single}, onStore, (*Console).hurt},
	}
}

func (c *Console) hasEngine() bool { return c.engine != nil }

// hasShards: shards stand in hand only beside the engine that they are of.
func (c *Console) hasShards() bool { return len(c.shards) > 0 }

func (c *Console) hasStore() bool { return c.store != nil }
