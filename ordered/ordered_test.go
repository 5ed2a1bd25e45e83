package ordered

import (
	"maps"
	"math/rand"
	"slices"
	"testing"
)

func keys[V any](m *Map[string, V]) []string {
	var all []string
	for k := range m.All() {
		all = append(all, k)
	}
	return all
}

func TestOrder(t *testing.T) {
	var m Map[string, int]
	for i, k := range []string{"b", "a", "c", "", "aa", "b"} {
		m.Put(k, i)
	}
	if got := keys(&m); !slices.Equal(got, []string{"", "a", "aa", "b", "c"}) {
		t.Errorf("keys: %q", got)
	}
	if v, ok := m.Get("b"); v != 5 || !ok || m.Len() != 5 {
		t.Errorf("a key that was put twice: %d, %v, of %d keys", v, ok, m.Len())
	}
	m.Drop("a")
	m.Drop("x")
	if got := keys(&m); !slices.Equal(got, []string{"", "aa", "b", "c"}) {
		t.Errorf("keys: %q", got)
	}
	if v, ok := m.Get("a"); v != 0 || ok {
		t.Errorf("a key that was dropped: %d, %v", v, ok)
	}
}

func TestEmpty(t *testing.T) {
	var m Map[string, int]
	m.Drop("a")
	if _, ok := m.Get("a"); ok || m.Len() != 0 || keys(&m) != nil {
		t.Error("an empty one has something")
	}
}

func TestRangeMayStop(t *testing.T) {
	var m Map[int, int]
	for i := range 5 {
		m.Put(-i, i)
	}
	seen := 0
	for k, v := range m.All() {
		seen++
		if k == -3 && v == 3 {
			break
		}
	}
	if seen != 2 {
		t.Errorf("%d keys seen ahead of the stop", seen)
	}
}

func TestAgainstMap(t *testing.T) {
	r := rand.New(rand.NewSource(1))
	var m Map[int, int]
	plain := map[int]int{}
	for i := range 5000 {
		k := r.Intn(60) - 30
		if r.Intn(3) == 0 {
			m.Drop(k)
			delete(plain, k)
		} else {
			m.Put(k, i)
			plain[k] = i
		}
		var got []int
		for k, v := range m.All() {
			got = append(got, k)
			if w, ok := m.Get(k); !ok || v != plain[k] || w != v {
				t.Fatalf("key %d: %d and %d, want %d", k, v, w, plain[k])
			}
		}
		if want := slices.Sorted(maps.Keys(plain)); !slices.Equal(got, want) || m.Len() != len(want) {
			t.Fatalf("keys: %d, want %d", got, want)
		}
	}
}
