package trie

import (
	"slices"

	"cullet/api"
)

// entry is a key that is kept, with its value.
type entry struct {
	key   []int
	value [][]byte
}

// node stands for a list that is the beginning of a key, or a key itself.
type node struct {
	children map[int]*node // by the number that comes next
	kept     *entry        // nil where the list is no key that is kept
}

func newNode() *node {
	return &node{children: map[int]*node{}}
}

// add lays an entry at the end of its key's way, and tells how many nodes the way lacked.
func (n *node) add(e *entry) int {
	made := 0
	for _, number := range e.key {
		child := n.children[number]
		if child == nil {
			child = newNode()
			n.children[number] = child
			made++
		}
		n = child
	}
	n.kept = e
	return made
}

// cut takes away what is kept at the end of a way, with those nodes of the way that nothing else needs, and tells how many these were.
func (n *node) cut(way []int) int {
	if len(way) == 0 {
		n.kept = nil
		return 0
	}
	child := n.children[way[0]]
	if child == nil {
		return 0
	}
	gone := child.cut(way[1:])
	if child.kept == nil && len(child.children) == 0 {
		delete(n.children, way[0])
		gone++
	}
	return gone
}

// keys: the list, and behind it the keys that are kept at this node and below, in their order.
func (n *node) keys(list [][]int) [][]int {
	if n.kept != nil {
		list = append(list, n.kept.key)
	}
	for _, number := range n.numbers() {
		list = n.children[number].keys(list)
	}
	return list
}

// numbers: those of the children, rising. A map goes through them in an order that must not be seen.
func (n *node) numbers() []int {
	list := make([]int, 0, len(n.children))
	for number := range n.children {
		list = append(list, number)
	}
	slices.Sort(list)
	return list
}

// isKey: numbers from 0 to 255, each greater than the one before it?
func isKey(list []int) bool {
	least := 0
	for _, number := range list {
		if number < least || number >= api.MaxSmall {
			return false
		}
		least = number + 1
	}
	return true
}

// copied: the list in new memory.
func copied[T any](list []T) []T {
	fresh := make([]T, len(list))
	copy(fresh, list)
	return fresh
}

// copies: the lists in new memory, each of them in its own.
func copies[T any](lists [][]T) [][]T {
	fresh := make([][]T, len(lists))
	for i, list := range lists {
		fresh[i] = copied(list)
	}
	return fresh
}
