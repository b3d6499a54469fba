package design_test

import (
	"bytes"
	"slices"
	"strings"
	"testing"

	"equipoise/api"
	"equipoise/design"
	"equipoise/wire"
)

// wantKey checks the bytes of a key.
func wantKey(t *testing.T, s api.State, want ...byte) {
	t.Helper()
	if got := design.Key(s); got != string(want) {
		t.Errorf("%s: % d; want % d", named("Key", s), []byte(got), want)
	}
}

// TestKeyExamples has the table of the chapter: P10.6.
func TestKeyExamples(t *testing.T) {
	wantKey(t, api.State{Rows: [][]int{{1, 2}, {}}}, 4, 4, 2, 4, 0)
	wantKey(t, api.State{Rows: [][]int{{1, 2}, nil}}, 4, 4, 2, 4, 0)
}

// TestKeyOfStates has states without rows, with rows that are proper for no kind, and with many rows: P10.6.
func TestKeyOfStates(t *testing.T) {
	wantKey(t, api.State{}, 0)
	wantKey(t, api.State{Rows: [][]int{}}, 0)
	wantKey(t, api.State{Rows: [][]int{nil}}, 2, 0)
	wantKey(t, api.State{Rows: [][]int{{0}}}, 2, 2, 0)
	wantKey(t, api.State{Rows: [][]int{{-1, 64, -65}, {63}, {-64}}}, 6, 6, 1, 128, 1, 129, 1, 2, 126, 2, 127)
	wantKey(t, empty(), append([]byte{40}, make([]byte, 20)...)...)
	wantKey(t, design.Start(), append([]byte{40}, make([]byte, 20)...)...)
	wantKey(t, with(empty(), 19, 3), append(append([]byte{40}, make([]byte, 19)...), 2, 6)...)
	wantKey(t, api.State{Rows: make([][]int, 64)}, append([]byte{128, 1}, make([]byte, 64)...)...)
	wantKey(t, api.State{Rows: [][]int{make([]int, 64)}}, append([]byte{2, 128, 1}, make([]byte, 64)...)...)
	wantKey(t, api.State{Rows: make([][]int, 1<<19)}, append([]byte{128, 128, 64}, make([]byte, 1<<19)...)...)
}

// TestKey compares the keys of all sorts of states with wire: P10.6.
func TestKey(t *testing.T) {
	for n := 1; n <= 6; n++ {
		l := append(states(n), oddStates(n)...)
		for _, row := range badRows(n) {
			l = append(l, with(empty(), 7, row...), api.State{Rows: [][]int{row, {1}, row}})
		}
		for _, s := range l {
			parts := []string{wire.Int(len(s.Rows))}
			for _, row := range s.Rows {
				parts = append(parts, wire.Ints(row))
			}
			wantKey(t, s, []byte(strings.Join(parts, ""))...)
		}
	}
}

// TestKeysOfAllStates has all states of at most 3 rows of at most 2 elements, of a few: their keys are different, and none is the beginning of another one: P10.6, P10.10.
func TestKeysOfAllStates(t *testing.T) {
	var elements [][]int
	for _, l := range lists(2, 0, 3) {
		row := slices.Clone(l)
		for i, k := range l {
			row[i] = []int{0, 1, -1, 64}[k]
		}
		elements = append(elements, row)
	}
	var keys [][]byte
	for _, l := range lists(3, 0, len(elements)-1) {
		var s api.State
		for _, k := range l {
			s.Rows = append(s.Rows, elements[k])
		}
		keys = append(keys, []byte(design.Key(s)))
	}
	slices.SortFunc(keys, bytes.Compare)
	for i, key := range keys[1:] {
		if bytes.HasPrefix(key, keys[i]) {
			t.Errorf("the key % d of a state is the beginning of that of another one, % d", keys[i], key)
		}
	}
}
