package tests

import (
	"math"
	"math/rand"
	"slices"
	"strconv"
	"strings"
	"testing"

	"loop.example/g00674/impl"
)

// The tests hold the codes of integers against texts of the characters 0 and 1:
// strconv writes and reads the numbers in them.

// gammaText writes the code of n, which may be greater than MaxGamma.
func gammaText(n int) string {
	digits := strconv.FormatInt(int64(n), 2)
	return strings.Repeat("0", len(digits)-1) + digits
}

// gammaOfText returns the number whose code is at the beginning of text, and the number of its bits.
func gammaOfText(text string) (int, int, bool) {
	zeros := strings.IndexByte(text, '1')
	if zeros < 0 || len(text) < 2*zeros+1 {
		return 0, 0, false
	}
	n, err := strconv.ParseInt(text[zeros:2*zeros+1], 2, 64)
	return int(n), 2*zeros + 1, err == nil && n <= impl.MaxGamma
}

// edgeNumbers are the powers of two that have a code, their neighbours, and the greatest numbers.
func edgeNumbers() []int {
	list := []int{impl.MaxGamma - 1, impl.MaxGamma}
	for p := 1; p <= impl.MaxGamma; p *= 2 {
		for _, n := range []int{p - 1, p, p + 1, p + p/3, p + p/2} {
			if n >= 1 && !slices.Contains(list, n) {
				list = append(list, n)
			}
		}
	}
	return list
}

// numbersWithoutCode are too small or too great.
func numbersWithoutCode() []int {
	list := append(badNumbers(), 0, -2, -3, -5, -impl.MaxGamma, -impl.MaxGamma-1,
		impl.MaxGamma+1, impl.MaxGamma+2, 2*impl.MaxGamma, 2*impl.MaxGamma+1, 2*impl.MaxGamma+2, 1<<32+1, 1<<32+5, math.MaxInt-1)
	for p := impl.MaxGamma + 1; p > 0; p *= 2 {
		list = append(list, p, p+1, 2*p-1, -p)
	}
	return list
}

// gotGamma requires that r has this number, up to bit number end.
func gotGamma(t *testing.T, r impl.Rd, n int, end int) {
	t.Helper()
	got, next, ok := impl.GetGamma(r)
	if !ok || got != n || next != (impl.Rd{Src: r.Src, At: end}) {
		t.Fatalf("from bit %d of %q: %d up to bit %d, %v, not %d up to bit %d", r.At, r.Src, got, next.At, ok, n, end)
	}
}

func refusedGamma(t *testing.T, r impl.Rd) {
	t.Helper()
	if n, next, ok := impl.GetGamma(r); ok || n != 0 || next != (impl.Rd{}) {
		t.Errorf("from bit %d of %q: %d, %v, %v", r.At, r.Src[:min(len(r.Src), 40)], n, next, ok)
	}
}

// readAsGamma requires what strconv reads in text, or that it is refused.
func readAsGamma(t *testing.T, text string) {
	t.Helper()
	r := readerOfExactly(text)
	n, used, ok := gammaOfText(text)
	if ok {
		gotGamma(t, r, n, r.At+used)
	} else {
		refusedGamma(t, r)
	}
}

func TestGammaExample(t *testing.T) {
	if b := impl.PutGamma(5); b != (impl.Bits{Data: "\x28", N: 5}) {
		t.Error("PutGamma", b)
	}
	if n := impl.GammaBits(5); n != 5 {
		t.Error("GammaBits", n)
	}
	gotGamma(t, impl.Rd{Src: "\x28"}, 5, 5)
	if impl.MaxGamma != 1048575 {
		t.Error("MaxGamma", impl.MaxGamma)
	}
}

// TestGammaTexts has the bits written out by hand.
func TestGammaTexts(t *testing.T) {
	for _, c := range []struct {
		n    int
		text string
	}{
		{1, "1"},
		{2, "0" + "10"},
		{3, "0" + "11"},
		{4, "00" + "100"},
		{5, "00" + "101"},
		{6, "00" + "110"},
		{7, "00" + "111"},
		{8, "000" + "1000"},
		{15, "000" + "1111"},
		{16, "0000" + "10000"},
		{127, "000000" + "1111111"},
		{128, "0000000" + "10000000"},
		{255, "0000000" + "11111111"},
		{256, "00000000" + "100000000"},
		{1000, "000000000" + "1111101000"},
		{65535, "000000000000000" + "1111111111111111"},
		{65536, "0000000000000000" + "10000000000000000"},
		{524287, "000000000000000000" + "1111111111111111111"},
		{524288, "0000000000000000000" + "10000000000000000000"},
		{699050, "0000000000000000000" + "10101010101010101010"},
		{1048574, "0000000000000000000" + "11111111111111111110"},
		{1048575, "0000000000000000000" + "11111111111111111111"},
	} {
		if got := textOf(t, impl.PutGamma(c.n)); got != c.text || impl.GammaBits(c.n) != len(c.text) {
			t.Errorf("%d: %s and %d, not %s", c.n, got, impl.GammaBits(c.n), c.text)
		}
		r := readerOfExactly(c.text)
		gotGamma(t, r, c.n, 8*len(r.Src))
	}
}

// TestGammaAll writes and reads every number that has a code.
func TestGammaAll(t *testing.T) {
	size, power := 1, 1
	for n := 1; n <= impl.MaxGamma; n++ {
		if n == 2*power {
			size, power = size+2, n
		}
		b := impl.PutGamma(n)
		if b.N != size || impl.GammaBits(n) != size || len(b.Data) != (size+7)/8 {
			t.Fatalf("%d: %d bits in %d bytes, and %d, not %d", n, b.N, len(b.Data), impl.GammaBits(n), size)
		}
		all := 0
		for i := range len(b.Data) {
			all = all<<8 | int(b.Data[i])
		}
		if all != n<<(8*len(b.Data)-size) {
			t.Fatalf("%d: %q", n, b.Data)
		}
		gotGamma(t, impl.Rd{Src: b.Data}, n, size)
	}
	if size != 39 {
		t.Errorf("%d bits", size)
	}
}

func TestGammaEdges(t *testing.T) {
	list := edgeNumbers()
	for p := range 20 {
		if !slices.Contains(list, 1<<p) {
			t.Fatalf("%d is not tested", 1<<p)
		}
	}
	for _, n := range list {
		want := gammaText(n)
		if got := textOf(t, impl.PutGamma(n)); got != want {
			t.Errorf("%d: %s, not %s", n, got, want)
		}
		if got := impl.GammaBits(n); got != len(want) {
			t.Errorf("%d: %d bits, not %d", n, got, len(want))
		}
	}
}

func TestPutGammaRefuses(t *testing.T) {
	for _, n := range numbersWithoutCode() {
		if b := impl.PutGamma(n); b != (impl.Bits{}) {
			t.Errorf("PutGamma(%d): %v", n, b)
		}
		if size := impl.GammaBits(n); size != -1 {
			t.Errorf("GammaBits(%d): %d", n, size)
		}
	}
}

// TestGetGammaInverse reads what was written, at every bit of a byte, with different bits behind it.
func TestGetGammaInverse(t *testing.T) {
	for _, n := range edgeNumbers() {
		text := textOf(t, impl.PutGamma(n))
		for at := range 18 {
			for _, behind := range []string{"", "0", "1", "01", "10110", strings.Repeat("0", 40), strings.Repeat("1", 40), someText(41)} {
				for _, fill := range []byte("01") {
					r, _ := readerAt(at, text+behind, fill)
					gotGamma(t, r, n, at+len(text))
				}
			}
		}
	}
}

// TestGetGammaEnds has every part of a code that ends within the zeros, right behind them, or within the number.
func TestGetGammaEnds(t *testing.T) {
	for _, n := range edgeNumbers() {
		text := gammaText(n)
		for size := range text {
			refusedGamma(t, readerOfExactly(text[:size]))
		}
		r := readerOfExactly(text)
		gotGamma(t, r, n, 8*len(r.Src))
	}
}

// TestGetGammaAtEnd has readers that are valid, but have no bits left.
func TestGetGammaAtEnd(t *testing.T) {
	for _, src := range []string{"", "\x00", "\x01", "\x80", "\xff", "\x28", "\xff\xff\xff", "\x00\x00\x08\x00\x00"} {
		refusedGamma(t, impl.Rd{Src: src, At: 8 * len(src)})
	}
}

// TestGetGammaZeros has as many leading zeros as a code can have, fewer, and far more of them.
func TestGetGammaZeros(t *testing.T) {
	zeros := []int{126, 127, 128, 129, 255, 256, 511, 512, 1 << 16, 8 * 100000}
	for n := range 100 {
		zeros = append(zeros, n)
	}
	for _, n := range zeros {
		for _, behind := range []string{"", "1", "10", strings.Repeat("1", 19), strings.Repeat("1", 20), strings.Repeat("1", n+1), "1" + strings.Repeat("0", n), "1" + someText(n)} {
			readAsGamma(t, strings.Repeat("0", n)+behind)
		}
	}
}

// TestGetGammaMostZeros has all that can follow the most zeros, as far as it matters.
func TestGetGammaMostZeros(t *testing.T) {
	most := strings.Repeat("0", 19)
	for _, n := range []int{1 << 19, 1<<19 + 1, 1<<19 + 1<<18, impl.MaxGamma - 1, impl.MaxGamma} {
		for at := range 8 {
			r, end := readerAt(at, most+textOfNumber(n, 20), '0')
			gotGamma(t, r, n, end)
		}
	}
	// These are no numbers of 20 bits: they begin with one zero more at least.
	for _, n := range []int{0, 1, 2, 1 << 17, 1 << 18, 1<<18 + 1, 1<<19 - 1} {
		for _, behind := range []string{"", "0", "1", strings.Repeat("0", 50), strings.Repeat("1", 50), "1" + someText(60)} {
			for at := range 8 {
				r, _ := readerAt(at, most+textOfNumber(n, 20)+behind, '1')
				refusedGamma(t, r)
			}
		}
	}
}

// TestGetGammaAbove has codes of the right form, of numbers that are too great.
func TestGetGammaAbove(t *testing.T) {
	for _, n := range numbersWithoutCode() {
		if n < 1 {
			continue
		}
		text := gammaText(n)
		for _, behind := range []string{"", "0", "1", strings.Repeat("0", 64), strings.Repeat("1", 64)} {
			refusedGamma(t, readerOfExactly(text+behind))
			r, _ := readerAt(len(text)%7, text+behind, '1')
			refusedGamma(t, r)
		}
		// With the first zeros left out it begins with the greatest code that has as many bits ahead.
		readAsGamma(t, text[len(text)/2-19:])
	}
}

// TestGetGammaAnyBits reads all texts of up to 15 bits.
func TestGetGammaAnyBits(t *testing.T) {
	for size := range 16 {
		for v := range 1 << size {
			readAsGamma(t, textOfNumber(v, size))
		}
	}
}

// TestGetGammaLongerBits reads longer texts that begin with up to 25 zeros.
func TestGetGammaLongerBits(t *testing.T) {
	source := rand.New(rand.NewSource(6))
	read := 0
	for i := range 60000 {
		zeros := i % 26
		size := source.Intn(60)
		text := strings.Repeat("0", zeros) + textOfNumber(source.Int(), size)
		if _, _, ok := gammaOfText(text); ok {
			read++
		}
		readAsGamma(t, text)
	}
	if read < 15000 || read > 45000 {
		t.Errorf("%d texts of 60000 are read", read)
	}
}

// TestGetGammaEveryStart reads from every bit of the same bytes.
func TestGetGammaEveryStart(t *testing.T) {
	for _, src := range []string{"\x00\x00\x08\x00\x00\x01", "\x28\x28\x28", "\x00\x00\x10\x00\x00\x00", "\x00\x00\x0f\xff\xff\xff", strings.Repeat("\x00", 9) + "\x01\xff\xff\xff", someBytes(300)} {
		text := textOfBytes(src)
		for at := range len(text) + 1 {
			n, used, ok := gammaOfText(text[at:])
			if ok {
				gotGamma(t, impl.Rd{Src: src, At: at}, n, at+used)
			} else {
				refusedGamma(t, impl.Rd{Src: src, At: at})
			}
		}
	}
}

// TestGammaRow writes many numbers into one string, and reads them again.
func TestGammaRow(t *testing.T) {
	source := rand.New(rand.NewSource(7))
	row := edgeNumbers()
	for range 500 {
		row = append(row, 1+source.Intn(impl.MaxGamma)>>source.Intn(20))
	}
	var all impl.Bits
	size := 0
	for _, n := range row {
		var ok bool
		if all, ok = impl.Join(all, impl.PutGamma(n)); !ok {
			t.Fatal(n)
		}
		size += impl.GammaBits(n)
	}
	if all.N != size {
		t.Fatalf("%d bits, not %d", all.N, size)
	}
	r := impl.Rd{Src: all.Data}
	for _, n := range row {
		gotGamma(t, r, n, r.At+len(gammaText(n)))
		r.At += impl.GammaBits(n)
	}
	if r.At != all.N {
		t.Errorf("up to bit %d of %d", r.At, all.N)
	}
}

func TestGetGammaRefuses(t *testing.T) {
	for _, r := range invalidReaders() {
		refusedGamma(t, r)
	}
	for _, src := range []string{"\x80", "\xff\xff\xff\xff\xff", "\x28\x00\x00\x00\x00\x00\x00\x00", strings.Repeat("\xff", 100)} {
		for _, at := range append(badNumbers(), 8*len(src)+1, 8*len(src)+2, 8*len(src)+8, 16*len(src), -8*len(src), -2, -3) {
			refusedGamma(t, impl.Rd{Src: src, At: at})
		}
	}
}

// TestGammaKeepsNothing repeats calls with others in between, refused ones among them.
func TestGammaKeepsNothing(t *testing.T) {
	for _, n := range edgeNumbers() {
		b := impl.PutGamma(n)
		r, end := readerAt(n%8, gammaText(n), '1')
		for _, other := range []string{"", "00", "1", "0011011", strings.Repeat("0", 70), strings.Repeat("1", 70)} {
			impl.GetGamma(readerOfExactly(other))
			impl.PutGamma(len(other))
			gotGamma(t, r, n, end)
			if again := impl.PutGamma(n); again != b {
				t.Errorf("%d: %v, then %v", n, b, again)
			}
		}
	}
}
