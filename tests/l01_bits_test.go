package tests

import (
	"math"
	"math/rand"
	"strings"
	"testing"

	"loop.example/g00674/impl"
)

// The tests hold the bit strings against texts of the characters 0 and 1.

// textOfBytes writes the bits of s, the most significant bit of each byte first.
func textOfBytes(s string) string {
	var t strings.Builder
	for i := range 8 * len(s) {
		t.WriteByte('0' + s[i/8]>>(7-i%8)&1)
	}
	return t.String()
}

// textOf writes the bits of b, which must be valid in every respect that the document names.
func textOf(t *testing.T, b impl.Bits) string {
	t.Helper()
	all := textOfBytes(b.Data)
	if b.N < 0 || b.N > len(all) || len(all)-b.N > 7 || strings.Contains(all[b.N:], "1") {
		t.Fatalf("not a bit string: N %d, Data %q", b.N, b.Data)
	}
	return all[:b.N]
}

// bitsOfText is the bit string with these bits.
func bitsOfText(text string) impl.Bits {
	data := make([]byte, (len(text)+7)/8)
	for i := range len(text) {
		data[i/8] |= (text[i] - '0') << (7 - i%8)
	}
	return impl.Bits{Data: string(data), N: len(text)}
}

// textOfNumber writes v in n bits.
func textOfNumber(v int, n int) string {
	t := make([]byte, n)
	for i := range n {
		t[n-1-i] = '0' + byte(v>>i&1)
	}
	return string(t)
}

// numberOfText reads a text of up to 32 bits.
func numberOfText(text string) int {
	v := 0
	for i := range len(text) {
		v = 2*v + int(text[i]-'0')
	}
	return v
}

// someText has n bits without a period, and always the same ones for the same n.
func someText(n int) string {
	source := rand.New(rand.NewSource(int64(n)))
	t := make([]byte, n)
	for i := range t {
		t[i] = '0' + byte(source.Intn(2))
	}
	return string(t)
}

// someNumbers are values of n bits: the ends of the range and patterns in it.
func someNumbers(n int) []int {
	most := 1<<n - 1
	return []int{0, most, 1 & most, most - most/2, 0x5a3c96e1 & most, 0xa5c3691e & most}
}

// badNumbers are no numbers of bits and no positions, whatever the string.
func badNumbers() []int {
	return []int{-1, -7, -8, -9, -64, math.MinInt, math.MinInt + 1, math.MaxInt, math.MaxInt - 7, 1 << 32, -1 << 32}
}

// longBits is valid and has n bits, the last of them 1.
func longBits(n int) impl.Bits {
	data := []byte(strings.Repeat("\xa7", (n+7)/8))
	if n%8 != 0 {
		data[n/8] = 1 << (8 - n%8)
	}
	return impl.Bits{Data: string(data), N: n}
}

// invalidBits breaks each of the conditions of BitsOk, alone where that is possible.
func invalidBits() []impl.Bits {
	list := []impl.Bits{
		{Data: "a"}, {Data: "\x00"}, {N: 1}, {N: 8},
		{Data: "a", N: 9}, {Data: "a", N: 16}, {Data: "\x80\x00", N: 1}, {Data: "ab", N: 8}, {Data: "abc", N: 15},
		{Data: "ab", N: 17}, {Data: "\xff", N: 7}, {Data: "\x01", N: 7}, {Data: "\x40", N: 1}, {Data: "\x01", N: 1},
		{Data: "\xbf\xe1", N: 11}, {Data: "\xbf\xf0", N: 11},
		{Data: strings.Repeat("\x00", impl.MaxBits/8+1), N: impl.MaxBits + 1},
		{Data: strings.Repeat("\x00", impl.MaxBits/8+1), N: impl.MaxBits + 8},
		{Data: strings.Repeat("\x00", impl.MaxBits/8+1), N: impl.MaxBits},
		{Data: strings.Repeat("\x00", impl.MaxBits/8-1), N: impl.MaxBits},
	}
	for _, n := range badNumbers() {
		list = append(list, impl.Bits{N: n}, impl.Bits{Data: "\x00", N: n})
	}
	return list
}

// invalidReaders stand before the beginning or behind the end.
func invalidReaders() []impl.Rd {
	list := []impl.Rd{{At: 1}, {At: 8}, {Src: "\x00", At: 9}, {Src: "\x00", At: 16}, {Src: "abc", At: 25}}
	for _, at := range badNumbers() {
		list = append(list, impl.Rd{At: at}, impl.Rd{Src: "\x00\x00\x00", At: at})
	}
	return list
}

func refusedBits(t *testing.T, what string, b impl.Bits, ok bool) {
	t.Helper()
	if ok || b != (impl.Bits{}) {
		t.Errorf("%s: %d bits and %v, not the zero value and false", what, b.N, ok)
	}
}

func refusedGet(t *testing.T, r impl.Rd, n int) {
	t.Helper()
	if v, next, ok := impl.Get(r, n); ok || v != 0 || next != (impl.Rd{}) {
		t.Errorf("Get(%v, %d): %d, %v, %v", r, n, v, next, ok)
	}
}

func TestBitsExamples(t *testing.T) {
	b, first := impl.Put(impl.Bits{}, 5, 3)
	b, second := impl.Put(b, 255, 8)
	if !first || !second || b != (impl.Bits{Data: "\xbf\xe0", N: 11}) {
		t.Error("Put", b)
	}
	v, r, first := impl.Get(impl.Rd{Src: "\xbf\xe0"}, 3)
	w, r, second := impl.Get(r, 8)
	if !first || !second || v != 5 || w != 255 || r != (impl.Rd{Src: "\xbf\xe0", At: 11}) {
		t.Error("Get", v, w, r)
	}
}

func TestBitsOk(t *testing.T) {
	for n := range 70 {
		for _, text := range []string{strings.Repeat("0", n), strings.Repeat("1", n), someText(n)} {
			if !impl.BitsOk(bitsOfText(text)) {
				t.Error("refused", text)
			}
		}
	}
	for _, n := range []int{impl.MaxBits - 9, impl.MaxBits - 8, impl.MaxBits - 1, impl.MaxBits} {
		if !impl.BitsOk(longBits(n)) {
			t.Error("refused", n)
		}
	}
	for _, b := range invalidBits() {
		if impl.BitsOk(b) {
			t.Errorf("accepted: N %d, %d bytes", b.N, len(b.Data))
		}
	}
}

// TestBitsUnused sets each unused bit alone, behind used bits of either kind.
func TestBitsUnused(t *testing.T) {
	for n := 1; n < 32; n++ {
		for _, text := range []string{strings.Repeat("0", n), strings.Repeat("1", n)} {
			for place := n; place%8 != 0; place++ {
				b := bitsOfText(text + strings.Repeat("0", place-n) + "1")
				if impl.BitsOk(impl.Bits{Data: b.Data, N: n}) {
					t.Errorf("accepted: N %d, Data %q", n, b.Data)
				}
			}
		}
	}
}

func TestPutAppends(t *testing.T) {
	for before := range 35 {
		for n := range 33 {
			old := someText(before)
			for _, v := range someNumbers(n) {
				b, ok := impl.Put(bitsOfText(old), v, n)
				if got := textOf(t, b); !ok || got != old+textOfNumber(v, n) {
					t.Fatalf("%d in %d bits behind %s: %s, %v", v, n, old, got, ok)
				}
			}
		}
	}
}

func TestPutChain(t *testing.T) {
	source := rand.New(rand.NewSource(1))
	var b impl.Bits
	want := ""
	for range 600 {
		n := source.Intn(33)
		v := int(source.Uint32()) & (1<<n - 1)
		longer, ok := impl.Put(b, v, n)
		want += textOfNumber(v, n)
		if got := textOf(t, longer); !ok || got != want {
			t.Fatalf("%d in %d bits behind %d bits", v, n, b.N)
		}
		b = longer
	}
	r := impl.Rd{Src: b.Data}
	for r.At+32 <= b.N {
		n := source.Intn(33)
		v, next, ok := impl.Get(r, n)
		if !ok || v != numberOfText(want[r.At:r.At+n]) || next != (impl.Rd{Src: b.Data, At: r.At + n}) {
			t.Fatalf("%d bits from %d: %d, %v", n, r.At, v, ok)
		}
		r = next
	}
}

// TestPutTwice appends different bits to the same string: neither result may change the other one or the string.
func TestPutTwice(t *testing.T) {
	for n := range 40 {
		old := someText(n)
		b := bitsOfText(old)
		ones, _ := impl.Put(b, 1<<32-1, 32)
		zeros, _ := impl.Put(b, 0, 32)
		both, _ := impl.Join(b, b)
		if textOf(t, ones) != old+strings.Repeat("1", 32) || textOf(t, zeros) != old+strings.Repeat("0", 32) || textOf(t, both) != old+old || textOf(t, b) != old {
			t.Error(n)
		}
	}
}

func TestPutRefuses(t *testing.T) {
	for _, n := range append(badNumbers(), 33, 34, 63, 64) {
		b, ok := impl.Put(bitsOfText("101"), 0, n)
		refusedBits(t, "a wrong number of bits", b, ok)
	}
	for n := range 33 {
		for _, v := range []int{1 << n, 1<<n + 1, 1 << 33, 1 << 62, math.MaxInt, -1, -1 << n, math.MinInt} {
			b, ok := impl.Put(bitsOfText("101"), v, n)
			refusedBits(t, "a value that does not fit", b, ok)
		}
	}
	for _, old := range invalidBits() {
		b, ok := impl.Put(old, 0, 0)
		refusedBits(t, "nothing put into what is not valid", b, ok)
		b, ok = impl.Put(old, 1, 1)
		refusedBits(t, "a bit put into what is not valid", b, ok)
	}
}

func TestPutLimit(t *testing.T) {
	for n := range 33 {
		old := longBits(impl.MaxBits - n)
		b, ok := impl.Put(old, 1<<n-1, n)
		if !ok || textOf(t, b) != textOf(t, old)+strings.Repeat("1", n) {
			t.Errorf("exactly MaxBits with %d more", n)
		}
		b, ok = impl.Put(longBits(impl.MaxBits-n), 0, n+1)
		refusedBits(t, "one bit too many", b, ok)
	}
	b, ok := impl.Put(longBits(impl.MaxBits), 0, 32)
	refusedBits(t, "32 bits too many", b, ok)
}

func TestJoin(t *testing.T) {
	for m := range 70 {
		for n := range 70 {
			a, b := someText(m), someText(n)
			joined, ok := impl.Join(bitsOfText(a), bitsOfText(b))
			if got := textOf(t, joined); !ok || got != a+b {
				t.Fatalf("%s and %s: %s, %v", a, b, got, ok)
			}
		}
	}
}

func TestJoinRefuses(t *testing.T) {
	for _, bad := range invalidBits() {
		for _, good := range []impl.Bits{{}, bitsOfText("101")} {
			b, ok := impl.Join(bad, good)
			refusedBits(t, "the first is not valid", b, ok)
			b, ok = impl.Join(good, bad)
			refusedBits(t, "the second is not valid", b, ok)
		}
		b, ok := impl.Join(bad, bad)
		refusedBits(t, "neither is valid", b, ok)
	}
}

func TestJoinLimit(t *testing.T) {
	for _, n := range []int{0, 1, 7, 8, 9, 33, impl.MaxBits / 2, impl.MaxBits - 1, impl.MaxBits} {
		a, b := longBits(n), longBits(impl.MaxBits-n)
		joined, ok := impl.Join(a, b)
		if !ok || textOf(t, joined) != textOf(t, a)+textOf(t, b) {
			t.Errorf("%d bits and the rest of MaxBits", n)
		}
		if n > 0 {
			joined, ok = impl.Join(a, longBits(impl.MaxBits-n+1))
			refusedBits(t, "one bit too many", joined, ok)
		}
	}
	joined, ok := impl.Join(longBits(impl.MaxBits), longBits(impl.MaxBits))
	refusedBits(t, "twice MaxBits", joined, ok)
}

func TestFill(t *testing.T) {
	for n := range 70 {
		text := someText(n)
		want := text
		for len(want)%8 != 0 {
			want += "0"
		}
		if got := textOf(t, impl.Fill(bitsOfText(text))); got != want {
			t.Errorf("%s: %s", text, got)
		}
	}
	for n := impl.MaxBits - 9; n <= impl.MaxBits; n++ {
		b := longBits(n)
		if got := impl.Fill(b); got != (impl.Bits{Data: b.Data, N: 8 * len(b.Data)}) {
			t.Errorf("%d bits: %d", n, got.N)
		}
	}
	for _, b := range invalidBits() {
		if got := impl.Fill(b); got != (impl.Bits{}) {
			t.Errorf("N %d, %d bytes: %d bits", b.N, len(b.Data), got.N)
		}
	}
}

func TestBitsOf(t *testing.T) {
	every := make([]byte, 256)
	for i := range every {
		every[i] = byte(i)
	}
	for _, s := range []string{"", "a", "\x00", "\x80\x01", "abc", string(every), strings.Repeat("\xe5", impl.MaxBits/8-1), strings.Repeat("\xe5", impl.MaxBits/8)} {
		b, ok := impl.BitsOf(s)
		if !ok || b != (impl.Bits{Data: s, N: 8 * len(s)}) || textOf(t, b) != textOfBytes(s) {
			t.Errorf("%d bytes: %d bits, %v", len(s), b.N, ok)
		}
	}
	for _, n := range []int{impl.MaxBits/8 + 1, impl.MaxBits/8 + 2, impl.MaxBits} {
		b, ok := impl.BitsOf(strings.Repeat("\x00", n))
		refusedBits(t, "too many bytes", b, ok)
	}
}

func TestReaders(t *testing.T) {
	for _, s := range []string{"", "a", "\x00\xff", "abcdefghi", strings.Repeat("z", impl.MaxBits/8+1)} {
		for at := 0; at <= 8*len(s); at += 1 + len(s)/100 {
			if r := (impl.Rd{Src: s, At: at}); !impl.RdOk(r) || impl.Left(r) != 8*len(s)-at {
				t.Errorf("bit %d of %d bytes: %v, %d left", at, len(s), impl.RdOk(r), impl.Left(r))
			}
		}
		end := impl.Rd{Src: s, At: 8 * len(s)}
		behind := impl.Rd{Src: s, At: 8*len(s) + 1}
		if !impl.RdOk(end) || impl.Left(end) != 0 || impl.RdOk(behind) || impl.Left(behind) != -1 {
			t.Errorf("the end of %d bytes", len(s))
		}
	}
	for _, r := range invalidReaders() {
		if impl.RdOk(r) || impl.Left(r) != -1 {
			t.Error("accepted", r)
		}
	}
}

func TestGet(t *testing.T) {
	text := someText(72)
	src := bitsOfText(text).Data
	for at := range 73 {
		for n := 0; n <= 32 && at+n <= 72; n++ {
			v, next, ok := impl.Get(impl.Rd{Src: src, At: at}, n)
			if !ok || v != numberOfText(text[at:at+n]) || next != (impl.Rd{Src: src, At: at + n}) {
				t.Fatalf("%d bits from %d: %d, %v, %v", n, at, v, next, ok)
			}
		}
	}
	v, _, ok := impl.Get(impl.Rd{Src: "\xff\xff\xff\xff"}, 32)
	if !ok || v != 1<<32-1 {
		t.Error("32 ones", v)
	}
}

// TestGetParts reads n bits and then m bits, and holds them against the n + m bits read at once.
func TestGetParts(t *testing.T) {
	src := bitsOfText(someText(56)).Data
	for at := range 25 {
		for n := range 33 {
			for m := range 33 - n {
				whole, end, ok := impl.Get(impl.Rd{Src: src, At: at}, n+m)
				high, middle, first := impl.Get(impl.Rd{Src: src, At: at}, n)
				low, last, second := impl.Get(middle, m)
				if !ok || !first || !second || whole != high<<m|low || last != end {
					t.Fatalf("%d and %d bits from %d: %d, not %d and %d", n, m, at, whole, high, low)
				}
			}
		}
	}
}

func TestGetRefuses(t *testing.T) {
	src := strings.Repeat("\xff", 10)
	for _, n := range append(badNumbers(), 33, 34, 40, 64) {
		refusedGet(t, impl.Rd{Src: src}, n)
	}
	for left := range 33 {
		r := impl.Rd{Src: src, At: 80 - left}
		if _, _, ok := impl.Get(r, left); !ok {
			t.Errorf("refused all of the last %d bits", left)
		}
		for n := left + 1; n < 35; n++ {
			refusedGet(t, r, n)
		}
	}
	refusedGet(t, impl.Rd{}, 1)
	for _, r := range invalidReaders() {
		refusedGet(t, r, 0)
		refusedGet(t, r, 1)
		refusedGet(t, r, -1)
	}
}

// TestToByte sets one bit of three bytes at a time: it matters only if it is skipped.
func TestToByte(t *testing.T) {
	for one := -1; one < 24; one++ {
		text := []byte(strings.Repeat("0", 24))
		if one >= 0 {
			text[one] = '1'
		}
		src := bitsOfText(string(text)).Data
		for at := range 25 {
			next := (at + 7) / 8 * 8
			want, accept := impl.Rd{Src: src, At: next}, one < at || one >= next
			if !accept {
				want = impl.Rd{}
			}
			if got, ok := impl.ToByte(impl.Rd{Src: src, At: at}); ok != accept || got != want {
				t.Errorf("from bit %d with a 1 at %d: %v, %v", at, one, got, ok)
			}
		}
	}
}

func TestToByteEnds(t *testing.T) {
	if r, ok := impl.ToByte(impl.Rd{}); !ok || r != (impl.Rd{}) {
		t.Error("the empty reader", r, ok)
	}
	if r, ok := impl.ToByte(impl.Rd{Src: "\xff", At: 8}); !ok || r != (impl.Rd{Src: "\xff", At: 8}) {
		t.Error("the end", r, ok)
	}
	for _, r := range invalidReaders() {
		if next, ok := impl.ToByte(r); ok || next != (impl.Rd{}) {
			t.Error("accepted", r, next)
		}
	}
}
