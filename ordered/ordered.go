// Package ordered keeps values in the order of their keys.
package ordered

import (
	"cmp"
	"iter"
	"slices"
)

type pair[K cmp.Ordered, V any] struct {
	key   K
	value V
}

// Map has one value for each of its keys. An empty one is ready to use.
type Map[K cmp.Ordered, V any] struct {
	pairs []pair[K, V]
}

func (m *Map[K, V]) find(key K) (int, bool) {
	return slices.BinarySearchFunc(m.pairs, key, func(p pair[K, V], key K) int {
		return cmp.Compare(p.key, key)
	})
}

// Len tells how many keys there are.
func (m *Map[K, V]) Len() int { return len(m.pairs) }

// Get tells the value of a key, and whether there is such a key.
func (m *Map[K, V]) Get(key K) (V, bool) {
	i, there := m.find(key)
	if !there {
		var nothing V
		return nothing, false
	}
	return m.pairs[i].value, true
}

// Put gives a key its value, in place of the one that it had.
func (m *Map[K, V]) Put(key K, value V) {
	i, there := m.find(key)
	if there {
		m.pairs[i].value = value
		return
	}
	m.pairs = slices.Insert(m.pairs, i, pair[K, V]{key, value})
}

// Drop takes a key away, if it is there.
func (m *Map[K, V]) Drop(key K) {
	if i, there := m.find(key); there {
		m.pairs = slices.Delete(m.pairs, i, i+1)
	}
}

// All gives the keys and their values to a range, in the order of the keys.
// The Map is not to be changed until the range has ended.
func (m *Map[K, V]) All() iter.Seq2[K, V] {
	return func(yield func(K, V) bool) {
		for _, p := range m.pairs {
			if !yield(p.key, p.value) {
				return
			}
		}
	}
}
