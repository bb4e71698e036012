package store

import (
	"bytes"
	"slices"
	"strings"

	"cullet/api"
	"cullet/frame"
)

// node keeps files.
type node struct {
	down  bool
	files map[string][]byte // by the objects' names; each in memory of its own
}

// newNodes: so many, all up and empty.
func newNodes(count int) []node {
	nodes := make([]node, count)
	for i := range nodes {
		nodes[i].files = map[string][]byte{}
	}
	return nodes
}

// unknown: what is wrong with a call about this node. ErrNil, ErrNode.
func (s *Store) unknown(node int) api.Errno {
	switch {
	case s.isNone():
		return api.ErrNil
	case node < 0 || node >= len(s.nodes):
		return api.ErrNode
	}
	return api.OK
}

func (s *Store) turn(node int, down bool) api.Errno {
	if fault := s.unknown(node); fault != api.OK {
		return fault
	}
	s.nodes[node].down = down
	return api.OK
}

// kept: the node's file under this name, in the node's own memory. ErrNil, ErrName, ErrNode, ErrNone.
func (s *Store) kept(node int, name string) ([]byte, api.Errno) {
	if fault := s.unfit(name); fault != api.OK {
		return nil, fault
	}
	if fault := s.unknown(node); fault != api.OK {
		return nil, fault
	}
	file, there := s.nodes[node].files[name]
	if !there {
		return nil, api.ErrNone
	}
	return file, api.OK
}

// place is where a shard's file lies.
type place struct {
	shard, node int
}

// count: how many shards an object has.
func (s *Store) count() int { return s.options.Data + s.options.Parity }

// homeOf: the nodes of the shards 0, 1, ..
func (s *Store) homeOf(name string) []int {
	first := int(frame.Sum([]byte(name)) % uint32(len(s.nodes)))
	home := make([]int, s.count())
	for shard := range home {
		home[shard] = (first + shard) % len(s.nodes)
	}
	return home
}

// upOf: the places of the name's home whose nodes are up, in the order of home.
func (s *Store) upOf(name string) []place {
	var up []place
	for shard, node := range s.homeOf(name) {
		if !s.nodes[node].down {
			up = append(up, place{shard, node})
		}
	}
	return up
}

// readable: the places that are up, where there are k or more. ErrNil, ErrName, ErrQuorum.
func (s *Store) readable(name string) ([]place, api.Errno) {
	if fault := s.unfit(name); fault != api.OK {
		return nil, fault
	}
	up := s.upOf(name)
	if len(up) < s.options.Data {
		return nil, api.ErrQuorum
	}
	return up, api.OK
}

// writable: the places that are up, where there are enough that each k of the home have one of them, and so see what is written. ErrNil, ErrName, ErrQuorum.
func (s *Store) writable(name string) ([]place, api.Errno) {
	up, fault := s.readable(name)
	if fault == api.OK && len(up) <= s.options.Parity {
		return nil, api.ErrQuorum
	}
	return up, fault
}

// keep: each of these places keeps its shard's file from now on. The answer: the nodes that kept something else, or nothing.
func (s *Store) keep(name string, up []place, files [][]byte) []int {
	// A name may be a small part of a long text.
	name = strings.Clone(name)
	var turned []int
	for _, p := range up {
		kept := s.nodes[p.node].files
		if !bytes.Equal(kept[name], files[p.shard]) {
			kept[name] = files[p.shard]
			turned = append(turned, p.node)
		}
	}
	return turned
}

// objects: the names of all objects that enough nodes are up for, in order.
func (s *Store) objects() []string {
	if s.isNone() {
		return nil
	}
	var names []string
	for _, n := range s.nodes {
		for name := range n.files {
			names = append(names, name)
		}
	}
	slices.Sort(names)
	return slices.DeleteFunc(slices.Compact(names), func(name string) bool {
		up, fault := s.readable(name)
		return fault != api.OK || s.stateOf(name, up).kind != object
	})
}
