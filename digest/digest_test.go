package digest_test

import (
	"math/rand"
	"slices"
	"strings"
	"testing"

	"equipoise/digest"
)

// bytes returns all bytes, in order.
func bytes() string {
	b := make([]byte, 256)
	for k := range b {
		b[k] = byte(k)
	}
	return string(b)
}

// checkExamples checks what a function of two strings returns, which is written in hexadecimal.
func checkExamples(t *testing.T, f func(a, b string) string, rows [][3]string) {
	t.Helper()
	for _, x := range rows {
		if got := f(x[0], x[1]); got != hexed(t, x[2]) {
			t.Errorf("%.20q and %.20q: %x, not %s", x[0], x[1], got, x[2])
		}
	}
}

// P2.1

func TestOfExamples(t *testing.T) {
	for s, want := range map[string]string{
		"":                           "000000110000001d",
		"\x00":                       "000c8580001ecec2",
		"\xff":                       "000c867f001ecfc1",
		"a":                          "000c85e1001ecf23",
		"ab":                         "395006683ac2595f",
		"ba":                         "3950c2f63ac36953",
		"equipoise":                  "29710c1b5c00b0d1",
		bytes():                      "452e5fc4335c126a",
		strings.Repeat("\xff", 1000): "5506207810980b52",
		strings.Repeat("\x00", 1000): "4a13be06710f7f0d",
	} {
		if got := digest.Of(s); got != hexed(t, want) {
			t.Errorf("%.20q: %x, not %s", s, got, want)
		}
	}
}

func TestOf(t *testing.T) {
	r := rand.New(rand.NewSource(1))
	l := []string{bytes() + bytes(), random(r, 1<<16), strings.Repeat("\xff", 1<<16), "é\u2028\U0001f331"}
	for c := range 256 {
		one := string([]byte{byte(c)})
		l = append(l, one, one+one, one+"\x00", "\xff"+one, strings.Repeat(one, 40))
	}
	for n := range 400 {
		l = append(l, random(r, n), random(r, r.Intn(20)))
	}
	for _, s := range l {
		got := digest.Of(s)
		if len(got) != 8 || got != digestOf(s) {
			t.Fatalf("%.40q of %d bytes: %x, not %x", s, len(s), got, digestOf(s))
		}
	}
}

// P2.2

func TestChainExamples(t *testing.T) {
	checkExamples(t, digest.Chain, [][3]string{
		{"", "", "157c59135c0e7e94"},
		{digest.Of(""), "entry", "02abf1864173f275"},
		{"before", "after", "22658b244ffe7e3f"},
		{strings.Repeat("x", 256), "y", "627ccf587b3c878d"},
	})
	if digest.Chain("", "") != digest.Of("\x04\x00\x00\x00\x00") {
		t.Error("nothing after nothing")
	}
}

func TestChain(t *testing.T) {
	r := rand.New(rand.NewSource(2))
	for _, n := range []int{0, 1, 2, 7, 8, 9, 127, 128, 255, 256, 257, 65535, 65536, 65537} {
		before := random(r, n)
		for _, s := range []string{"", "\x00", "s", digest.Of("s"), random(r, 300)} {
			checkChain(t, before, s)
		}
	}
	checkChain(t, random(r, 1<<24+0x020100), "s")
	checkChain(t, "b", random(r, 1<<24+3))
}

// checkChain checks the digest of a string after another one.
func checkChain(t *testing.T, before, s string) {
	t.Helper()
	if got := digest.Chain(before, s); got != digest.Of("\x04"+lengthOf(before)+before+s) {
		t.Fatalf("%d bytes and %d: %x", len(before), len(s), got)
	}
}

// TestChainParts has the same bytes, divided otherwise.
func TestChainParts(t *testing.T) {
	seen := map[string]bool{}
	for k := range 9 {
		seen[digest.Chain("abcdefgh"[:k], "abcdefgh"[k:])] = true
	}
	if len(seen) != 9 {
		t.Errorf("%d digests of 9 chains", len(seen))
	}
}

// P2.3

func TestMarkExamples(t *testing.T) {
	checkExamples(t, digest.Mark, [][3]string{
		{"", "", "1a2c34ac2e0586bf"},
		{"k", "m", "2794da1e3e690c8e"},
		{"", "m", "2000036346c204fb"},
		{"key", "", "61e20c3f07365e41"},
		{"key", "message", "01ac26d974b674ba"},
		{strings.Repeat("k", 256), strings.Repeat("m", 65536), "0327f86f62f18782"},
	})
	if digest.Mark("k", "m") != digest.Of("\x05\x01\x00\x00\x00k\x01\x00\x00\x00mk") {
		t.Error("k and m")
	}
}

func TestMark(t *testing.T) {
	r := rand.New(rand.NewSource(3))
	sizes := []int{0, 1, 2, 8, 255, 256, 257, 65535, 65536, 65537}
	for _, n := range sizes {
		for _, m := range sizes {
			checkMark(t, random(r, n), random(r, m))
		}
	}
	checkMark(t, random(r, 1<<24+0x020100), "m")
	checkMark(t, "k", random(r, 1<<24+0x020100))
}

// checkMark checks the signature of a message by a key.
func checkMark(t *testing.T, key, msg string) {
	t.Helper()
	mark := digest.Mark(key, msg)
	if mark != digest.Of("\x05"+lengthOf(key)+key+lengthOf(msg)+msg+key) {
		t.Fatalf("a key of %d bytes and a message of %d: %x", len(key), len(msg), mark)
	}
	if digest.Check(key, msg, mark) != (key != "") {
		t.Fatalf("a key of %d bytes and a message of %d: %v", len(key), len(msg), key == "")
	}
}

// TestCheckRefused has marks that differ from the right one.
func TestCheckRefused(t *testing.T) {
	r := rand.New(rand.NewSource(4))
	for _, x := range [][2]string{{"k", "m"}, {"k", ""}, {"key", "message"}, {"\x00", "\x00"}, {random(r, 64), random(r, 500)}} {
		key, msg := x[0], x[1]
		mark := digest.Mark(key, msg)
		if !digest.Check(key, msg, mark) {
			t.Fatalf("%q and %q: the right mark", key, msg)
		}
		for _, s := range slices.Concat(altered(mark), []string{
			digest.Mark(msg, key), digest.Mark(key+"\x00", msg), digest.Mark("\x00"+key, msg), digest.Mark(key, msg+"\x00"), digest.Mark("", msg), digest.Mark(key, msg+key),
			digest.Of(msg), digest.Of(key + msg), digest.Chain(key, msg), digest.Of("\x05" + lengthOf(key) + key + lengthOf(msg) + msg),
		}) {
			if s != mark && digest.Check(key, msg, s) {
				t.Errorf("%q and %q: %x", key, msg, s)
			}
		}
		if digest.Check(key+"x", msg, mark) || digest.Check(key[:len(key)-1], msg, mark) || digest.Check(key, msg+"x", mark) {
			t.Errorf("%q and %q: another key or message", key, msg)
		}
	}
}

// altered returns strings that differ from a digest: by a byte, in the number of bytes, or altogether.
func altered(d string) []string {
	l := []string{"", d + "\x00", "\x00" + d, d + d, d[:7], d[1:], d[:4], d[4:] + d[:4], zeros, d + strings.Repeat("x", 1000)}
	for k := range len(d) {
		for _, by := range []byte{1, 2, 128, 255} {
			b := []byte(d)
			b[k] ^= by
			l = append(l, string(b))
		}
		l = append(l, d[:k], d[:k]+d[k+1:])
	}
	return l
}

// TestCheckEmptyKey has no key: nothing is its signature.
func TestCheckEmptyKey(t *testing.T) {
	for _, msg := range []string{"", "m", "message", digest.Of("m"), strings.Repeat("m", 300)} {
		for _, mark := range []string{digest.Mark("", msg), "", digest.Of(msg), digest.Of("")} {
			if digest.Check("", msg, mark) {
				t.Errorf("%.20q: %x", msg, mark)
			}
		}
	}
}

// TestMarkParts has the same bytes, divided otherwise.
func TestMarkParts(t *testing.T) {
	if digest.Mark("a", "bc") == digest.Mark("ab", "c") || digest.Mark("a", "ba") == digest.Mark("ab", "a") || digest.Mark("ab", "") == digest.Mark("a", "b") {
		t.Error("another key has the same mark")
	}
}

// P2.4

func TestRootExamples(t *testing.T) {
	for _, x := range []struct {
		l    []string
		want string
	}{
		{nil, "000c8583001ecec5"},
		{[]string{""}, "000c8581001ecec3"},
		{[]string{"a"}, "390950c73a5c5d7e"},
		{[]string{"a", "b"}, "72644e512663ac23"},
		{[]string{"a", "b", "c"}, "7477199d2544b0c8"},
		{[]string{"a", "b", "c", "d"}, "7cfbdc4955114440"},
		{[]string{"a", "b", "c", "d", "e"}, "2ff119eb7d785f23"},
		{[]string{"", "", ""}, "6ccf21ab561ce257"},
		{names("", 1000), "0e36c9da09447f99"},
	} {
		if got := digest.Root(x.l); got != hexed(t, x.want) {
			t.Errorf("%.20q: %x, not %s", x.l, got, x.want)
		}
	}
	a, b := digest.Of("\x01a"), digest.Of("\x01b")
	if digest.Root(nil) != digest.Of("\x03") || digest.Root([]string{"a"}) != a || digest.Root([]string{"a", "b"}) != digest.Of("\x02"+a+b) {
		t.Error("no string, one, or two")
	}
}

func TestRoot(t *testing.T) {
	for _, l := range lists() {
		if got := digest.Root(l); got != treeOf(l, widthOf(len(l))) {
			t.Errorf("%d strings: %x", len(l), got)
		}
	}
}

// TestRootFill has strings that are not the same as none.
func TestRootFill(t *testing.T) {
	seen := map[string]int{}
	for n := range 9 {
		seen[digest.Root(make([]string, n))] = n
		seen[digest.Root(slices.Repeat([]string{"\x03"}, n+1))] = n
	}
	if len(seen) != 18 {
		t.Errorf("%d roots of 18 lists", len(seen))
	}
}

func TestProveExamples(t *testing.T) {
	abc := []string{"a", "b", "c"}
	for i, want := range [][]string{
		{digest.Of("\x01b"), digest.Of("\x02" + digest.Of("\x01c") + digest.Of("\x03"))},
		{digest.Of("\x01a"), digest.Of("\x02" + digest.Of("\x01c") + digest.Of("\x03"))},
		{digest.Of("\x03"), digest.Root([]string{"a", "b"})},
	} {
		if got := proved(t, abc, i); !slices.Equal(got, want) {
			t.Errorf("%d: %x", i, got)
		}
	}
	if proof := proved(t, []string{"a"}, 0); len(proof) != 0 {
		t.Errorf("one string: %x", proof)
	}
}

func TestProve(t *testing.T) {
	for _, l := range lists() {
		w := widthOf(len(l))
		for i := range l {
			if got := proved(t, l, i); !slices.Equal(got, proofOf(l, w, i)) {
				t.Fatalf("%d of %d: %x", i, len(l), got)
			}
		}
	}
}

// TestProveNothing has indices that are none, with those of the digests that fill level 0.
func TestProveNothing(t *testing.T) {
	for _, l := range lists() {
		for _, i := range append(slices.Clone(ints), len(l), len(l)+1, widthOf(len(l))-1, widthOf(len(l)), -len(l)) {
			if i >= 0 && i < len(l) {
				continue
			}
			if proof, ok := digest.Prove(l, i); ok || len(proof) != 0 {
				t.Errorf("%d of %d: %x, %v", i, len(l), proof, ok)
			}
		}
	}
}

// TestProveLong has a list whose proofs are longer than those that are accepted.
func TestProveLong(t *testing.T) {
	l := make([]string, 1<<20+1)
	l[1<<20] = "last"
	proof := proved(t, l, 1<<20)
	if len(proof) != 21 || proof[0] != digest.Of("\x03") || folded("last", 1<<20, proof) != digest.Root(l) {
		t.Errorf("%d elements: %x", len(proof), proof)
	}
	if digest.Verify(digest.Root(l), "last", 1<<20, proof) {
		t.Error("21 elements")
	}
}
