package tests

import (
	"math/rand"
	"regexp"
	"slices"
	"strings"
	"testing"

	"loop.example/g00674/impl"
)

// The tests hold the encoded lengths against texts of the characters 0 and 1:
// one pattern tells the steps of a symbol apart, and they are counted in it.

// firstText writes the length from which the steps begin.
func firstText(x int) string {
	return textOfNumber(x, 5)
}

// stepsText writes the steps between two lengths, and the bit that ends them.
func stepsText(from int, to int) string {
	return strings.Repeat("10", max(0, to-from)) + strings.Repeat("11", max(0, from-to)) + "0"
}

// lensText writes lengths, beginning from another length than the first one if first says so.
func lensText(first int, l []int) string {
	t := firstText(first)
	for _, x := range l {
		t += stepsText(first, x)
		first = x
	}
	return t
}

var stepsOfSymbol = regexp.MustCompile(`^(?:1[01])*0`)

// lensOfText reads n lengths, and returns them with the number of bits that they take.
func lensOfText(text string, n int) ([]int, int, bool) {
	if len(text) < 5 {
		return nil, 0, false
	}
	x := numberOfText(text[:5])
	inRange := func() bool { return x >= 1 && x <= impl.MaxLen }
	all := inRange()
	used := 5
	var l []int
	for range n {
		steps := stepsOfSymbol.FindString(text[used:])
		if steps == "" {
			return nil, 0, false
		}
		used += len(steps)
		for len(steps) > 1 {
			x += map[string]int{"10": 1, "11": -1}[steps[:2]]
			all = all && inRange()
			steps = steps[2:]
		}
		l = append(l, x)
	}
	return l, used, all && kraftOf(l) <= 1<<impl.MaxLen
}

// writtenLens are lists that a code has, with short and long ways between the lengths.
func writtenLens() [][]int {
	return append(codeLens(),
		[]int{1, 20, 2}, []int{2, 20, 1}, []int{20, 1, 20}, []int{20, 20, 1, 20}, []int{1, 20, 20}, []int{20, 1, 2},
		[]int{19, 20, 19, 18, 20, 1}, []int{2, 20, 2, 20, 2},
		slices.Repeat([]int{20, 9}, impl.MaxSyms/2), slices.Repeat([]int{8, 20}, impl.MaxSyms/2),
		append([]int{1}, slices.Repeat([]int{20}, impl.MaxSyms-1)...),
		append(slices.Repeat([]int{20}, impl.MaxSyms-1), 1),
	)
}

// walkText writes as many symbols as it tells, whose steps leave the range now and then.
func walkText(source *rand.Rand) (string, int) {
	x := 1 + source.Intn(impl.MaxLen)
	t := firstText(x)
	n := 1 + source.Intn(6)
	for range n {
		for source.Intn(7) > 0 {
			step := 2*source.Intn(2) - 1
			if (x == 1 || x == impl.MaxLen) && source.Intn(3) > 0 {
				step = 2*min(1, impl.MaxLen-x) - 1
			}
			t += stepsText(x, x+step)[:2]
			x += step
		}
		t += "0"
	}
	return t, n
}

// gotLens requires that r has these lengths, up to bit number end.
func gotLens(t *testing.T, r impl.Rd, l []int, end int) {
	t.Helper()
	got, next, ok := impl.GetLens(r, len(l))
	if !ok || !slices.Equal(got, l) || next != (impl.Rd{Src: r.Src, At: end}) {
		t.Fatalf("from bit %d of %q: %v up to bit %d, %v, not %v up to bit %d", r.At, r.Src, got, next.At, ok, l, end)
	}
}

func refusedPutLens(t *testing.T, l []int) {
	t.Helper()
	if b, ok := impl.PutLens(l); ok || b != (impl.Bits{}) {
		t.Errorf("PutLens of %d lengths %v: %d bits, %v", len(l), l[:min(len(l), 25)], b.N, ok)
	}
	if n := impl.LensCost(l); n != -1 {
		t.Errorf("LensCost of %d lengths %v: %d", len(l), l[:min(len(l), 25)], n)
	}
}

func refusedGetLens(t *testing.T, r impl.Rd, n int) {
	t.Helper()
	if l, next, ok := impl.GetLens(r, n); ok || len(l) != 0 || next != (impl.Rd{}) {
		t.Errorf("%d lengths from bit %d of %q: %v, %v, %v", n, r.At, r.Src[:min(len(r.Src), 40)], l, next, ok)
	}
}

// readAs requires what the pattern reads in text, or that it is refused.
func readAs(t *testing.T, text string, n int) {
	t.Helper()
	r := readerOfExactly(text)
	l, used, ok := lensOfText(text, n)
	if ok {
		gotLens(t, r, l, r.At+used)
	} else {
		refusedGetLens(t, r, n)
	}
}

func TestLensBitsExample(t *testing.T) {
	l := []int{2, 2, 1}
	b, ok := impl.PutLens(l)
	if !ok || b != (impl.Bits{Data: "\x11\x80", N: 10}) {
		t.Error("PutLens", b, ok)
	}
	if n := impl.LensCost(l); n != 10 {
		t.Error("LensCost", n)
	}
	gotLens(t, impl.Rd{Src: "\x11\x80"}, l, 10)
}

// TestPutLensTexts has the bits written out by hand.
func TestPutLensTexts(t *testing.T) {
	up, down := strings.Repeat("10", 19), strings.Repeat("11", 19)
	for _, c := range []struct {
		l    []int
		text string
	}{
		{[]int{1}, "00001" + "0"},
		{[]int{20}, "10100" + "0"},
		{[]int{1, 1}, "00001" + "0" + "0"},
		{[]int{1, 2}, "00001" + "0" + "100"},
		{[]int{2, 1}, "00010" + "0" + "110"},
		{[]int{3, 3, 3, 3}, "00011" + "0" + "0" + "0" + "0"},
		{[]int{2, 4, 3}, "00010" + "0" + "10100" + "110"},
		{[]int{1, 20}, "00001" + "0" + up + "0"},
		{[]int{20, 1}, "10100" + "0" + down + "0"},
		{[]int{20, 1, 20}, "10100" + "0" + down + "0" + up + "0"},
		{[]int{1, 20, 2}, "00001" + "0" + up + "0" + down[2:] + "0"},
	} {
		b, ok := impl.PutLens(c.l)
		if got := textOf(t, b); !ok || got != c.text || impl.LensCost(c.l) != len(c.text) {
			t.Errorf("%v: %s and %d, not %s", c.l, got, impl.LensCost(c.l), c.text)
		}
		gotLens(t, readerOfExactly(c.text), c.l, 8*((len(c.text)+7)/8))
	}
}

func TestPutLens(t *testing.T) {
	for _, l := range writtenLens() {
		want := lensText(l[0], l)
		b, ok := impl.PutLens(l)
		if got := textOf(t, b); !ok || got != want {
			t.Fatalf("%v: %s, not %s", l, got, want)
		}
		if n := impl.LensCost(l); n != len(want) {
			t.Fatalf("%v: %d bits, not %d", l, n, len(want))
		}
	}
}

// TestPutLensPairs has every way from one length to another one.
func TestPutLensPairs(t *testing.T) {
	for x := 1; x <= impl.MaxLen; x++ {
		for y := 1; y <= impl.MaxLen; y++ {
			l := []int{x, y}
			want := lensText(x, l)
			b, ok := impl.PutLens(l)
			if got := textOf(t, b); !ok || got != want || impl.LensCost(l) != len(want) {
				t.Errorf("%v: %s and %d, not %s", l, got, impl.LensCost(l), want)
			}
			gotLens(t, impl.Rd{Src: b.Data}, l, b.N)
		}
	}
}

func TestPutLensRefuses(t *testing.T) {
	for _, l := range append(invalidLens(), crowdedLens()...) {
		refusedPutLens(t, l)
	}
	for _, l := range [][]int{{1, 20, 1}, {1, 1, 20}, {20, 1, 1}, append(slices.Repeat([]int{9, 8}, impl.MaxSyms/2), 20)} {
		refusedPutLens(t, l)
	}
}

// TestGetLensInverse reads what was written, at every bit of a byte, with different bits behind it.
func TestGetLensInverse(t *testing.T) {
	for _, l := range writtenLens() {
		b, ok := impl.PutLens(l)
		if !ok {
			t.Fatalf("%v: %v", l, b)
		}
		text := textOf(t, b)
		for at := range 9 {
			for _, behind := range []string{"", "0", "1", "10", "11", "10110", strings.Repeat("0", 33), strings.Repeat("1", 33)} {
				r, end := readerAt(at, text, '1')
				if behind != "" {
					r, _ = readerAt(at, text+behind, '0')
				}
				gotLens(t, r, l, end)
			}
		}
	}
}

// TestGetLensFewer reads the first lengths of longer lists.
func TestGetLensFewer(t *testing.T) {
	for _, l := range writtenLens() {
		text := lensText(l[0], l)
		r, _ := readerAt(3, text, '0')
		for n := 1; n <= len(l); n += 1 + n/9 {
			gotLens(t, r, l[:n], 3+len(lensText(l[0], l[:n])))
		}
		refusedGetLens(t, readerOfExactly(text), len(l)+1)
		refusedGetLens(t, readerOfExactly(text), impl.MaxSyms+1)
	}
}

// TestGetLensEnds has every part of the bits that ends before they do.
func TestGetLensEnds(t *testing.T) {
	for _, l := range [][]int{{1}, {20}, {2, 2, 1}, {1, 20, 2}, {20, 1, 20}, {5, 5, 5, 5}, slices.Repeat([]int{9}, impl.MaxSyms), slices.Repeat([]int{20, 9}, impl.MaxSyms/2)} {
		text := lensText(l[0], l)
		for n := range text {
			refusedGetLens(t, readerOfExactly(text[:n]), len(l))
		}
		gotLens(t, readerOfExactly(text), l, (len(text)+7)/8*8)
	}
	refusedGetLens(t, impl.Rd{}, 1)
	refusedGetLens(t, impl.Rd{Src: "\x11\x80", At: 16}, 1)
}

// TestGetLensFirst begins with every value of five bits, and goes from it to every length.
func TestGetLensFirst(t *testing.T) {
	for first := range 32 {
		for x := 1; x <= impl.MaxLen; x++ {
			for _, l := range [][]int{{x}, {x, x}, {x, 20}} {
				r, end := readerAt(first%8, lensText(first, l), '1')
				if first < 1 || first > impl.MaxLen || kraftOf(l) > 1<<impl.MaxLen {
					refusedGetLens(t, r, len(l))
				} else {
					gotLens(t, r, l, end)
				}
			}
		}
	}
}

// TestGetLensFirstLong has another first length for a list that is as long as possible.
func TestGetLensFirstLong(t *testing.T) {
	for first := range 32 {
		l := slices.Repeat([]int{9, 10}, impl.MaxSyms/2)
		r, end := readerAt(5, lensText(first, l), '0')
		if first < 1 || first > impl.MaxLen {
			refusedGetLens(t, r, len(l))
		} else {
			gotLens(t, r, l, end)
		}
	}
}

// TestGetLensDetours has steps up and down for the same symbol, up to the ends of the range and beyond them.
func TestGetLensDetours(t *testing.T) {
	up, down := func(n int) string { return strings.Repeat("10", n) }, func(n int) string { return strings.Repeat("11", n) }
	for x := 1; x <= impl.MaxLen; x++ {
		for far := range impl.MaxLen + 5 {
			higher := up(far) + down(far) + "0"
			lower := down(far) + up(far) + "0"
			for _, c := range []struct {
				text string
				n    int
				ok   bool
			}{
				{firstText(x) + higher, 1, x+far <= impl.MaxLen},
				{firstText(x) + lower, 1, x-far >= 1},
				{firstText(x) + "0" + higher, 2, x+far <= impl.MaxLen},
				{firstText(x) + "0" + lower, 2, x-far >= 1},
			} {
				want := slices.Repeat([]int{x}, c.n)
				r := readerOfExactly(c.text)
				if c.ok {
					gotLens(t, r, want, 8*len(r.Src))
				} else {
					refusedGetLens(t, r, c.n)
				}
			}
		}
	}
}

// TestGetLensDetourLater leaves the range at one symbol of many, and comes back.
func TestGetLensDetourLater(t *testing.T) {
	for place := range impl.MaxSyms {
		for _, c := range []struct {
			x      int
			detour string
			ok     bool
		}{
			{20, "10" + "11", false}, {20, "11" + "10", true}, {9, strings.Repeat("11", 8) + strings.Repeat("10", 8), true},
			{9, strings.Repeat("11", 9) + strings.Repeat("10", 9), false}, {9, strings.Repeat("10", 11) + strings.Repeat("11", 11), true},
			{9, strings.Repeat("10", 12) + strings.Repeat("11", 12), false},
		} {
			text := firstText(c.x) + strings.Repeat("0", place) + c.detour + strings.Repeat("0", impl.MaxSyms-place)
			r, end := readerAt(place%8, text, '1')
			if c.ok {
				gotLens(t, r, slices.Repeat([]int{c.x}, impl.MaxSyms), end)
			} else {
				refusedGetLens(t, r, impl.MaxSyms)
			}
		}
	}
}

// TestGetLensLongDetour has far more steps than any length needs.
func TestGetLensLongDetour(t *testing.T) {
	for _, detour := range []string{"1011", "1110", "10101111"} {
		text := firstText(2) + strings.Repeat(detour, 5000) + "0"
		if detour == "1110" {
			text += "110"
		} else {
			text += "0"
		}
		readAs(t, text, 2)
		readAs(t, text[:len(text)-1], 2)
		if _, _, ok := lensOfText(text, 2); !ok {
			t.Errorf("%s: not read", detour)
		}
	}
	for _, endless := range []string{"10", "11", "1011"} {
		refusedGetLens(t, readerOfExactly(firstText(3)+strings.Repeat(endless, 20000)), 1)
	}
}

// TestGetLensCrowded reads lengths that are in their range but that no code has.
func TestGetLensCrowded(t *testing.T) {
	for _, l := range append(crowdedLens(), []int{1, 20, 1}, append(slices.Repeat([]int{8}, 256), 20)) {
		for _, behind := range []string{"", "0", "1000", strings.Repeat("0", 300)} {
			r, _ := readerAt(len(l)%8, lensText(l[0], l)+behind, '0')
			refusedGetLens(t, r, len(l))
		}
	}
	// One length fewer has room in a code.
	for _, l := range [][]int{{1, 1, 1}, {2, 2, 2, 2, 2}, {1, 1, 20}, slices.Repeat([]int{8}, 257)} {
		readAs(t, lensText(l[0], l), len(l)-1)
		readAs(t, lensText(l[0], l), len(l))
	}
}

// TestGetLensOutside has lists whose length leaves the range at the last step of a symbol.
func TestGetLensOutside(t *testing.T) {
	for _, l := range [][]int{{0}, {21}, {1, 0}, {20, 21}, {2, 0}, {18, 21}, {2, 0, 2}, {20, 21, 20}, {9, -1}, {9, 32}, {3, 40, 3}, {20, 20, 20, 21}} {
		r, _ := readerAt(1, lensText(l[0], l), '0')
		refusedGetLens(t, r, len(l))
	}
}

// TestGetLensAnyBits reads all texts of up to 13 bits.
func TestGetLensAnyBits(t *testing.T) {
	for size := range 14 {
		for v := range 1 << size {
			for n := 1; n <= 5; n++ {
				readAs(t, textOfNumber(v, size), n)
			}
		}
	}
}

// TestGetLensWalks reads longer texts, of any bits and of any steps.
func TestGetLensWalks(t *testing.T) {
	source := rand.New(rand.NewSource(5))
	read := 0
	for i := range 20000 {
		text, n := walkText(source)
		if _, _, ok := lensOfText(text, n); ok {
			read++
		}
		readAs(t, text, n)
		readAs(t, text[:source.Intn(len(text))], n)
		readAs(t, text+someText(i%50), n+source.Intn(3))
		readAs(t, firstText(1+source.Intn(impl.MaxLen))+someText(i%300), 1+source.Intn(9))
	}
	if read < 4000 || read > 18000 {
		t.Errorf("%d texts of 20000 are read", read)
	}
}

// TestGetLensShortest writes again what was read, which never takes more bits.
func TestGetLensShortest(t *testing.T) {
	source := rand.New(rand.NewSource(6))
	for range 5000 {
		text, n := walkText(source)
		l, _, ok := impl.GetLens(readerOfExactly(text), n)
		if !ok {
			continue
		}
		b, ok := impl.PutLens(l)
		if !ok || b.N > len(text) {
			t.Fatalf("%s is %v, which is written in %d bits, %v", text, l, b.N, ok)
		}
		gotLens(t, impl.Rd{Src: b.Data}, l, b.N)
	}
}

func TestGetLensRefuses(t *testing.T) {
	zeros := "\x48" + strings.Repeat("\x00", 100)
	for _, n := range append(badNumbers(), 0, -2, -impl.MaxSyms, impl.MaxSyms+1, impl.MaxSyms+2, 2*impl.MaxSyms, 1<<32+1) {
		refusedGetLens(t, impl.Rd{Src: zeros}, n)
		refusedGetLens(t, impl.Rd{Src: "\xa0" + zeros[1:]}, n)
		refusedGetLens(t, impl.Rd{}, n)
	}
	gotLens(t, impl.Rd{Src: zeros}, []int{9}, 6)
	gotLens(t, impl.Rd{Src: zeros}, slices.Repeat([]int{9}, impl.MaxSyms), 5+impl.MaxSyms)
	for _, r := range invalidReaders() {
		for _, n := range []int{-1, 0, 1, 2, impl.MaxSyms, impl.MaxSyms + 1} {
			refusedGetLens(t, r, n)
		}
	}
}

// TestLensBitsArguments passes parts of longer slices, all of which must stay as they were.
func TestLensBitsArguments(t *testing.T) {
	for _, l := range [][]int{{1}, {2, 2, 1}, {20, 1, 20}, {1, 1, 1}, {0, 1}, {21}, nil, slices.Repeat([]int{9, 10}, 130), slices.Repeat([]int{9}, 261)} {
		all := slices.Concat([]int{7}, l, []int{1, 0, 21, 5})
		kept := slices.Clone(all)
		part := all[1 : 1+len(l)]
		impl.PutLens(part)
		impl.LensCost(part)
		if !slices.Equal(all, kept) {
			t.Errorf("%v is %v", kept, all)
		}
	}
}

// TestLensBitsKeepNothing spoils results, and repeats calls with others in between.
func TestLensBitsKeepNothing(t *testing.T) {
	for _, l := range [][]int{{1}, {2, 2, 1}, {20, 1, 20}, slices.Repeat([]int{9}, impl.MaxSyms)} {
		arg := slices.Clone(l)
		b, _ := impl.PutLens(arg)
		first, r, _ := impl.GetLens(impl.Rd{Src: b.Data}, len(l))
		spare := first[:cap(first)]
		for i := range spare {
			spare[i] = -9
		}
		impl.PutLens([]int{1, 2, 3})
		impl.GetLens(impl.Rd{Src: "\x0d\x80"}, 1)
		gotLens(t, impl.Rd{Src: b.Data}, l, r.At)
		again, ok := impl.PutLens(arg)
		if !ok || again != b || !slices.Equal(arg, l) {
			t.Errorf("%v: %v, then %v", l, b, again)
		}
	}
}
