package tests

import (
	"hash/crc32"
	"math"
	"math/bits"
	"math/rand"
	"strings"
	"testing"

	"loop.example/g00674/impl"
)

// The tests hold the CRC against the long division of polynomials, and against
// the standard library's CRC, which takes the bits in the opposite order.

const allOnes = 1<<32 - 1

// remainder divides v, of up to 40 bits, by the generator with its highest term.
func remainder(v int) int {
	for place := 39; place >= 32; place-- {
		if v>>place&1 == 1 {
			v ^= 0x104c11db7 << (place - 32)
		}
	}
	return v
}

// stepOf appends a byte to the polynomial of which w is the remainder.
func stepOf(w int, b int) int {
	return remainder(w<<8 ^ b<<32)
}

// mirrored computes CrcFrom with every byte, and the words, read from the other end.
func mirrored(w int, s string) int {
	data := []byte(s)
	for i := range data {
		data[i] = bits.Reverse8(data[i])
	}
	start := ^bits.Reverse32(uint32(w))
	return int(bits.Reverse32(^crc32.Update(start, crc32.IEEETable, data)))
}

// someWords are the ends of the range, words with either highest bit, and each bit alone.
func someWords() []int {
	list := []int{0, allOnes, 1<<31 - 1, 1<<31 + 1, 1<<24 - 1, 255, 256, 79764919, 0x5a3c96e1, 0xa5c3691e}
	for i := range 32 {
		list = append(list, 1<<i, allOnes^1<<i)
	}
	return list
}

// noWords look like a word if only their lowest 32 bits are seen, or their sign is lost.
func noWords() []int {
	return append(badNumbers(), 1<<32+1, 1<<32+5, 1<<33, 1<<40, 1<<63-1<<32, -2, -255, -1<<31, -allOnes, math.MinInt+5)
}

// noBytes look like a byte if only their lowest 8 bits are seen, or their sign is lost.
func noBytes() []int {
	return append(badNumbers(), 256, 257, 258, 511, 512, 65536, 1<<31, 1<<32+1, -2, -128, -255, -256, -257, math.MinInt+1)
}

// someBytes has n bytes without a period, and always the same ones for the same n.
func someBytes(n int) string {
	source := rand.New(rand.NewSource(int64(n)))
	s := make([]byte, n)
	for i := range s {
		s[i] = byte(source.Intn(256))
	}
	return string(s)
}

// someStrings are ordinary ones and such as lose something if they are read as runes, as texts with an end, or up to a limit.
func someStrings() []string {
	list := []string{"", "\x00", "\xff", "\x80", "\x7f", "a", "\x00\x00", "\x00\x00\x00\x00\x00", "\xff\xff\xff\xff", "\xff\xff\xff\xff\xff",
		"\x00a", "a\x00", "a\x00b", "123456789", "äöü€", "\xc3", "\xed\xa0\x80", strings.Repeat("\x00", 40), strings.Repeat("\xff", 40), strings.Repeat("ab", 300)}
	for n := 1; n < 40; n++ {
		list = append(list, someBytes(n))
	}
	return append(list, someBytes(255), someBytes(256), someBytes(257), someBytes(600), someBytes(6000), someBytes(100001))
}

func TestCrcExamples(t *testing.T) {
	if got := impl.CrcEntry(1); got != 79764919 {
		t.Error("CrcEntry(1)", got)
	}
	if got := impl.Crc(""); got != 0 {
		t.Error("the empty string", got)
	}
	// The published check values of the CRC with this generator: BZIP2, MPEG-2 and, inverted, POSIX.
	if got := impl.Crc("123456789"); got != 0xfc891918 {
		t.Errorf("Crc: %#x", got)
	}
	if got := impl.CrcFrom(allOnes, "123456789"); got != 0x0376e6e7 {
		t.Errorf("CrcFrom ones: %#x", got)
	}
	if got := impl.CrcFrom(0, "123456789"); got != 0x765e7680^allOnes {
		t.Errorf("CrcFrom zeros: %#x", got)
	}
}

func TestCrcEntry(t *testing.T) {
	of := map[int]int{}
	for b := range 256 {
		got := impl.CrcEntry(b)
		if want := remainder(b << 32); got != want {
			t.Errorf("%d: %#x, not %#x", b, got, want)
		}
		if other, seen := of[got]; seen {
			t.Errorf("%d and %d have the same entry", other, b)
		}
		of[got] = b
	}
	for _, b := range noBytes() {
		if got := impl.CrcEntry(b); got != -1 {
			t.Errorf("%d: %d", b, got)
		}
	}
}

func TestCrcStep(t *testing.T) {
	for _, w := range someWords() {
		for b := range 256 {
			if got, want := impl.CrcStep(w, b), stepOf(w, b); got != want {
				t.Fatalf("%#x and %d: %#x, not %#x", w, b, got, want)
			}
		}
	}
}

func TestCrcStepRefuses(t *testing.T) {
	for _, w := range noWords() {
		for _, b := range append(noBytes(), 0, 1, 128, 255) {
			if got := impl.CrcStep(w, b); got != -1 {
				t.Errorf("%d and %d: %d", w, b, got)
			}
		}
	}
	for _, b := range noBytes() {
		for _, w := range someWords() {
			if got := impl.CrcStep(w, b); got != -1 {
				t.Errorf("%d and %d: %d", w, b, got)
			}
		}
	}
}

// TestCrcFromSteps applies CrcStep with each byte in turn.
func TestCrcFromSteps(t *testing.T) {
	for _, w := range someWords() {
		for n := range 30 {
			s := someBytes(n)
			want := w
			for i := range n {
				want = impl.CrcStep(want, int(s[i]))
			}
			if got := impl.CrcFrom(w, s); got != want {
				t.Fatalf("%#x and %q: %#x, not %#x", w, s, got, want)
			}
		}
	}
}

func TestCrcFrom(t *testing.T) {
	for _, s := range someStrings() {
		words := someWords()
		if len(s) > 1000 {
			words = words[:4]
		}
		for _, w := range words {
			if got, want := impl.CrcFrom(w, s), mirrored(w, s); got != want {
				t.Errorf("%#x and %d bytes: %#x, not %#x", w, len(s), got, want)
			}
		}
	}
}

func TestCrcFromNothing(t *testing.T) {
	for _, w := range someWords() {
		if got := impl.CrcFrom(w, ""); got != w {
			t.Errorf("%#x: %#x", w, got)
		}
	}
}

func TestCrcFromRefuses(t *testing.T) {
	for _, w := range noWords() {
		for _, s := range []string{"", "\x00", "a", "123456789", someBytes(600)} {
			if got := impl.CrcFrom(w, s); got != -1 {
				t.Errorf("%d and %d bytes: %d", w, len(s), got)
			}
		}
	}
}

func TestCrc(t *testing.T) {
	for _, s := range someStrings() {
		got := impl.Crc(s)
		if want := mirrored(allOnes, s) ^ allOnes; got != want {
			t.Errorf("%d bytes: %#x, not %#x", len(s), got, want)
		}
		if got < 0 || got > allOnes {
			t.Errorf("%d bytes: %d is not a word", len(s), got)
		}
	}
	for b := range 256 {
		s := string([]byte{byte(b)})
		if got, want := impl.Crc(s), stepOf(allOnes, b)^allOnes; got != want {
			t.Errorf("the byte %d: %#x, not %#x", b, got, want)
		}
	}
}

// TestCrcParts divides strings at every place in two, and some in three.
func TestCrcParts(t *testing.T) {
	for _, s := range someStrings() {
		if len(s) > 1000 {
			continue
		}
		for i := range len(s) + 1 {
			for _, w := range []int{0, allOnes, 1 << 31, 1<<31 - 1} {
				if got, want := impl.CrcFrom(impl.CrcFrom(w, s[:i]), s[i:]), impl.CrcFrom(w, s); got != want {
					t.Fatalf("%#x and %q at %d: %#x, not %#x", w, s, i, got, want)
				}
			}
			if got := impl.CrcFrom(impl.Crc(s[:i])^allOnes, s[i:]) ^ allOnes; got != impl.Crc(s) {
				t.Fatalf("%q at %d: %#x, not %#x", s, i, got, impl.Crc(s))
			}
		}
	}
	s := someBytes(24)
	for i := range len(s) + 1 {
		for j := i; j <= len(s); j++ {
			if got := impl.CrcFrom(impl.CrcFrom(impl.CrcFrom(7, s[:i]), s[i:j]), s[j:]); got != impl.CrcFrom(7, s) {
				t.Fatalf("at %d and %d: %#x", i, j, got)
			}
		}
	}
}

// TestCrcChanges replaces the byte at every place by every other one.
func TestCrcChanges(t *testing.T) {
	for _, s := range []string{"a", "\x00", "\xff", "ab", "123456789", strings.Repeat("\x00", 33), strings.Repeat("\xff", 33), someBytes(100)} {
		changed := []byte(s)
		for i := range changed {
			for b := range 256 {
				changed[i] = byte(b)
				if (impl.Crc(string(changed)) == impl.Crc(s)) != (changed[i] == s[i]) {
					t.Errorf("%q with %d at %d", s, b, i)
				}
			}
			changed[i] = s[i]
		}
	}
}

// TestCrcChangesLong changes one byte, and one bit, far from the end of a long string.
func TestCrcChangesLong(t *testing.T) {
	s := someBytes(6000)
	crc := impl.Crc(s)
	changed := []byte(s)
	for i := range changed {
		for _, x := range []byte{1, 1 << (i % 8), 0xff} {
			changed[i] = s[i] ^ x
			if impl.Crc(string(changed)) == crc {
				t.Errorf("%#x at %d is not detected", x, i)
			}
		}
		changed[i] = s[i]
	}
}

// TestCrcKeepsNothing repeats calls with others in between.
func TestCrcKeepsNothing(t *testing.T) {
	list := someStrings()[:60]
	first := make([]int, len(list))
	for i, s := range list {
		first[i] = impl.Crc(s)
	}
	for i := len(list) - 1; i >= 0; i-- {
		impl.CrcFrom(-1, list[i])
		impl.CrcStep(allOnes, 255)
		if got := impl.Crc(list[i]); got != first[i] {
			t.Errorf("%q: %#x, then %#x", list[i], first[i], got)
		}
	}
}
