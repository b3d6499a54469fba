package draw_test

import (
	"slices"
	"strings"
	"testing"

	"equipoise/digest"
	"equipoise/draw"
)

// TestCommitExamples has commitments that were computed by another program: P6.1.
func TestCommitExamples(t *testing.T) {
	for seed, want := range map[string]string{
		"":                          "499aacf67b0ef5ca",
		"x":                         "6226d3064e692b02",
		"seed":                      "12f884251825bbba",
		allBytes()[:64]:             "0fbfe1dd63b479fe",
		strings.Repeat("\xff", 300): "64f0e5a45695ba54",
	} {
		if got := draw.Commit(seed); hexed(got) != want {
			t.Errorf("Commit of %.20q: %x, not %s", seed, got, want)
		}
	}
}

// TestCommit has seeds of all lengths, permitted elsewhere or not: P6.1.
func TestCommit(t *testing.T) {
	seen := map[string]bool{}
	for n := range 300 {
		for _, s := range []string{allBytes() + allBytes(), strings.Repeat("\x00", 300)} {
			got := draw.Commit(s[:n])
			if got != digest.Mark("commit", s[:n]) || !digest.Check("commit", s[:n], got) {
				t.Errorf("Commit of %d bytes: %x", n, got)
			}
			seen[got] = true
		}
	}
	if len(seen) < 598 { // only the seeds of no byte, and of the byte 0, are the same
		t.Errorf("%d commitments", len(seen))
	}
}

// TestJoinedExamples has seeds that were joined by another program: P6.1.
func TestJoinedExamples(t *testing.T) {
	for _, x := range []struct {
		seeds []string
		want  string
	}{
		{[]string{"x"}, "3dfd76f53bf75d6f"},
		{[]string{"a", "b"}, "705080884a76017f"},
		{[]string{"b", "a"}, "7858b0c872c9e55d"},
		{[]string{"ab"}, "43e735683faad963"},
		{[]string{"1", "22", "333", "4444", "55555"}, "66e50cde2751aa0b"},
		{slices.Repeat([]string{strings.Repeat("\x00", 64)}, 5), "6e2c49067c8db343"},
	} {
		if got, ok := draw.Joined(x.seeds); hexed(got) != x.want || !ok {
			t.Errorf("Joined of %.80q: %x, %v; want %s", x.seeds, got, ok, x.want)
		}
	}
}

// joinedModel returns what seeds make, from the first of them on.
func joinedModel(before string, seeds []string) string {
	if len(seeds) == 0 {
		return before
	}
	return joinedModel(digest.Chain(before, seeds[0]), seeds[1:])
}

// TestJoined has each permitted number of seeds with each permitted length: P6.1.
func TestJoined(t *testing.T) {
	bytes := allBytes() + allBytes()
	for n := 1; n <= 5; n++ {
		for length := 1; length <= 64; length++ {
			var l []string
			for k := range n {
				l = append(l, bytes[37*k:][:max(1, (length+13*k)%65)])
			}
			l[n-1] = bytes[length:][:length]
			if got, ok := draw.Joined(l); !ok || got != joinedModel(digest.Of(""), l) {
				t.Errorf("Joined of %d seeds, the last one of %d bytes: %x, %v", n, length, got, ok)
			}
		}
	}
}

// TestJoinedOrder has seeds in another order, and divided otherwise: P6.1.
func TestJoinedOrder(t *testing.T) {
	seen := map[string]bool{}
	for _, l := range [][]string{{"a", "b", "c"}, {"a", "c", "b"}, {"b", "a", "c"}, {"b", "c", "a"}, {"c", "a", "b"}, {"c", "b", "a"}, {"abc"}, {"ab", "c"}, {"a", "bc"}, {"a", "b"}, {"a", "b", "c", "c"}} {
		got, ok := draw.Joined(l)
		if !ok || seen[got] {
			t.Errorf("Joined of %q: %x, %v", l, got, ok)
		}
		seen[got] = true
	}
}

// TestJoinedRefused has wrong numbers of seeds, and a seed of a wrong length at each index: P6.1, R2.
func TestJoinedRefused(t *testing.T) {
	lists := [][]string{nil, {}, slices.Repeat([]string{"s"}, 6), slices.Repeat([]string{"s"}, 7), slices.Repeat([]string{"s"}, 257), make([]string, 5), make([]string, 6)}
	for n := 1; n <= 5; n++ {
		for at := range n {
			for _, wrong := range []string{"", strings.Repeat("s", 65), strings.Repeat("é", 33), strings.Repeat("s", 256), strings.Repeat("s", 257), strings.Repeat("s", 1<<16+1)} {
				l := slices.Repeat([]string{"s"}, n)
				l[at] = wrong
				lists = append(lists, l)
			}
		}
	}
	for _, l := range lists {
		if got, ok := draw.Joined(l); got != "" || ok {
			t.Errorf("Joined of %d seeds, %.60q: %x, %v", len(l), l, got, ok)
		}
	}
}

// TestJoinedLimits has seeds that are just not too many or too long, in bytes: P6.1.
func TestJoinedLimits(t *testing.T) {
	for _, l := range [][]string{slices.Repeat([]string{strings.Repeat("s", 64)}, 5), {strings.Repeat("é", 32)}, {"\x00"}, {"\x00", "\x00", "\x00", "\x00", "\x00"}} {
		if got, ok := draw.Joined(l); len(got) != 8 || !ok {
			t.Errorf("Joined of %.60q: %x, %v", l, got, ok)
		}
	}
}
