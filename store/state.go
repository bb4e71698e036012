package store

import (
	"cullet/api"
	"cullet/frame"
)

// The kinds of states.
const (
	nothing = iota
	object
	deleted
)

// state is what a name is, by the files that read well.
type state struct {
	kind  int
	stamp uint64   // the greatest one
	files [][]byte // the shard files, in the order of home; older ones too
}

// stateOf: the name's, by the files of these places.
func (s *Store) stateOf(name string, up []place) state {
	var x state
	for _, p := range up {
		file := s.nodes[p.node].files[name]
		if stamp, fits := tombStamp(file); fits {
			x.note(deleted, stamp)
		} else if stamp, fits := s.shardStamp(file, p.shard); fits {
			x.note(object, stamp)
			x.files = append(x.files, file)
		}
	}
	return x
}

// note: a file that reads well has this stamp. Of a tomb and a shard with one stamp the tomb counts.
func (x *state) note(kind int, stamp uint64) {
	if x.kind == nothing || stamp > x.stamp || stamp == x.stamp && kind == deleted {
		x.kind, x.stamp = kind, stamp
	}
}

// shardStamp: that of a file that reads well as this shard's; false of others.
func (s *Store) shardStamp(file []byte, shard int) (uint64, bool) {
	h, fault := frame.ReadHead(file)
	if fault != api.OK || h.Index != shard || h.Size > api.MaxObject {
		return 0, false
	}
	if h.Family != s.options.Family || h.Data != s.options.Data || h.Parity != s.options.Parity || h.Block != s.block {
		return 0, false
	}
	// There is a group of this one file just where frame.Read answers OK; and the sums of the blocks, of which nothing is asked here, are not worked out.
	_, _, fault = frame.Choose([][]byte{file})
	return h.Stamp, fault == api.OK
}

// open: the object that these places have. ErrNone, ErrTooFew.
func (s *Store) open(name string, up []place) ([]byte, api.Errno) {
	x := s.stateOf(name, up)
	if x.kind != object {
		return nil, api.ErrNone
	}
	return frame.Open(x.files)
}

// renew: the files that the home is to keep in this state. ErrNone, ErrTooFew.
func (s *Store) renew(x state) ([][]byte, api.Errno) {
	switch x.kind {
	case object:
		files, _, fault := frame.Renew(x.files)
		return files, fault
	case deleted:
		return s.tombs(x.stamp), api.OK
	}
	return nil, api.ErrNone
}

// write seals the data and has these places keep the files. No error is possible: New and the calls have looked at all that goes into it.
func (s *Store) write(name string, up []place, data []byte) api.Errno {
	files, fault := frame.Seal(s.options, s.block, s.writings+1, data)
	if fault != api.OK {
		return fault
	}
	s.writings++
	s.keep(name, up, files)
	return api.OK
}
