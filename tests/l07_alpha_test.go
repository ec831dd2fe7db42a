package tests

import (
	"math/rand"
	"slices"
	"strings"
	"testing"

	"loop.example/g00674/impl"
)

// The tests hold the encoded sets and orders against texts of the characters 0
// and 1: a set is a text with a character for each byte, cut into its groups,
// and the list of an order is a string out of which bytes are cut.

const groupBytes = 16

// everyByte is all 256 bytes in ascending order.
func everyByte() string {
	s := make([]byte, 256)
	for i := range s {
		s[i] = byte(i)
	}
	return string(s)
}

// countOf counts a byte in s.
func countOf(s string, b byte) int {
	return strings.Count(s, string([]byte{b}))
}

// usedIn is the set of the bytes of s.
func usedIn(s string) string {
	var u []byte
	for i := range 256 {
		if strings.IndexByte(s, byte(i)) >= 0 {
			u = append(u, byte(i))
		}
	}
	return string(u)
}

// byCountIn takes the bytes of each frequency in turn.
func byCountIn(s string) string {
	u := usedIn(s)
	counts := make([]int, len(u))
	for i := range counts {
		counts[i] = countOf(s, u[i])
	}
	steps := slices.Compact(slices.Sorted(slices.Values(counts)))
	slices.Reverse(steps)
	var o []byte
	for _, count := range steps {
		for i := range counts {
			if counts[i] == count {
				o = append(o, u[i])
			}
		}
	}
	return string(o)
}

func reversedBytes(s string) string {
	b := []byte(s)
	slices.Reverse(b)
	return string(b)
}

func shuffledBytes(source *rand.Rand, s string) string {
	b := []byte(s)
	source.Shuffle(len(b), func(i int, j int) { b[i], b[j] = b[j], b[i] })
	return string(b)
}

// usedText writes a set, which need not be ascending: a text of all 256 bytes without the groups that have no 1.
func usedText(u string) string {
	all := []byte(strings.Repeat("0", 256))
	for i := range len(u) {
		all[u[i]] = '1'
	}
	groups, members := "", ""
	for part := range slices.Chunk(all, groupBytes) {
		if strings.Contains(string(part), "1") {
			groups += "1"
			members += string(part)
		} else {
			groups += "0"
		}
	}
	return groups + members
}

// usedOfText reads a set, and returns it with the number of bits that it takes.
func usedOfText(text string) (string, int, bool) {
	if len(text) < groupBytes || !strings.Contains(text[:groupBytes], "1") {
		return "", 0, false
	}
	groups := text[:groupBytes]
	size := groupBytes + groupBytes*strings.Count(groups, "1")
	if len(text) < size {
		return "", 0, false
	}
	members := text[groupBytes:size]
	all := ""
	for _, g := range groups {
		part := strings.Repeat("0", groupBytes)
		if g == '1' {
			part, members = members[:groupBytes], members[groupBytes:]
			if !strings.Contains(part, "1") {
				return "", 0, false
			}
		}
		all += part
	}
	var u []byte
	for b := range 256 {
		if all[b] == '1' {
			u = append(u, byte(b))
		}
	}
	return string(u), size, true
}

// indexWidth is the number of bits of an index in a list of n bytes.
func indexWidth(n int) int {
	width := 0
	for 1<<width < n {
		width++
	}
	return width
}

// orderText writes an order without a repeated byte.
func orderText(o string) string {
	list := usedIn(o)
	t := ""
	for i := range len(o) {
		place := strings.IndexByte(list, o[i])
		if len(list) > 1 {
			t += textOfNumber(place, indexWidth(len(list)))
		}
		list = list[:place] + list[place+1:]
	}
	return t
}

// orderOfText reads an order of the bytes of u, and returns it with the number of bits that it takes.
func orderOfText(text string, u string) (string, int, bool) {
	used := 0
	o := ""
	for len(u) > 1 {
		width := indexWidth(len(u))
		if len(text) < used+width {
			return "", 0, false
		}
		place := numberOfText(text[used : used+width])
		if place >= len(u) {
			return "", 0, false
		}
		used += width
		o += u[place : place+1]
		u = u[:place] + u[place+1:]
	}
	return o + u, used, true
}

// someSets have the first and the last bytes of groups, groups that are full, empty ones between, and any bytes.
func someSets() []string {
	every := everyByte()
	list := []string{"a", "ab", "abc", "ac", "az", "\x00\xff", "\x7f\x80", every, every[1:], every[:255], every[:128], every[128:], every[1:255], every[15:17], every[14:18], every[:16], every[240:], every[16:240], every[8:248]}
	firsts, lasts := "", ""
	for g := range 16 {
		part := every[groupBytes*g : groupBytes*(g+1)]
		firsts, lasts = firsts+part[:1], lasts+part[15:]
		list = append(list, part[:1], part[15:], part[:1]+part[15:], part, part[1:], part[:15], every[:groupBytes*g]+every[groupBytes*(g+1):])
	}
	list = append(list, firsts, lasts, usedIn(firsts+lasts))
	source := rand.New(rand.NewSource(7))
	for range 200 {
		list = append(list, usedIn(someBytes(1+source.Intn(300))), usedIn(shuffledBytes(source, every)[:1+source.Intn(256)]))
	}
	return list
}

// someOrders have each number of bytes, in ascending, descending and any order.
func someOrders() []string {
	var list []string
	source := rand.New(rand.NewSource(8))
	every := everyByte()
	for n := 1; n <= 256; n++ {
		u := usedIn(shuffledBytes(source, every)[:n])
		list = append(list, u, reversedBytes(u), shuffledBytes(source, u), u[n-1:]+u[:n-1], u[1:]+u[:1])
	}
	return append(list, "cab", "x", "\x00", "\xff", "\xff\x00", "\x80\x7f")
}

// fewOrders have the numbers of bytes at which the bits of an index change, and some between.
func fewOrders() []string {
	source := rand.New(rand.NewSource(9))
	list := []string{"a", "ba", "cab", everyByte(), reversedBytes(everyByte())}
	for _, n := range []int{1, 2, 3, 4, 5, 6, 7, 8, 9, 15, 16, 17, 24, 31, 32, 33, 63, 64, 65, 100, 127, 128, 129, 200, 255, 256} {
		list = append(list, shuffledBytes(source, everyByte())[:n])
	}
	return list
}

// permutations are all orders of the bytes of u.
func permutations(u string) []string {
	if len(u) < 2 {
		return []string{u}
	}
	var list []string
	for i := range len(u) {
		for _, rest := range permutations(u[:i] + u[i+1:]) {
			list = append(list, u[i:i+1]+rest)
		}
	}
	return list
}

// repeatedBytes have a byte twice at least, next to each other or far apart.
func repeatedBytes() []string {
	every := everyByte()
	list := []string{"aa", "aab", "aba", "baa", "abb", "abca", "abcb", "abcc", "\x00\x00", "\xff\xff", "\xff\x00\xff", "äö", strings.Repeat("a", 256), strings.Repeat("a", 600), strings.Repeat("ab", 128), every + every}
	for i := 0; i < 256; i += 15 {
		// The last one has 256 bytes, one of them in the place of another one.
		list = append(list, every[:i+1]+every[i:], every[i:i+1]+every, every+every[i:i+1], every[:i]+every[255-i:256-i]+every[i+1:])
	}
	return list
}

// noSets are empty, not ascending, or have a repeated byte.
func noSets() []string {
	every := everyByte()
	list := append(repeatedBytes(), "", "ba", "acb", "bac", "cba", "abdc", "\xff\x00", "\x80\x7f", "\x01\x00", "\x10\x0f", reversedBytes(every), every[1:]+every[:1], every[255:]+every[:255])
	for i := range 255 {
		list = append(list, every[i+1:i+2]+every[i:i+1], every[:i]+every[i+1:i+2]+every[i:i+1]+every[i+2:])
	}
	return list
}

// gotUsed requires that r has this set, up to bit number end.
func gotUsed(t *testing.T, r impl.Rd, u string, end int) {
	t.Helper()
	got, next, ok := impl.GetUsed(r)
	if !ok || got != u || next != (impl.Rd{Src: r.Src, At: end}) {
		t.Fatalf("from bit %d of %q: %q up to bit %d, %v, not %q up to bit %d", r.At, r.Src, got, next.At, ok, u, end)
	}
}

func refusedGetUsed(t *testing.T, r impl.Rd) {
	t.Helper()
	if u, next, ok := impl.GetUsed(r); ok || u != "" || next != (impl.Rd{}) {
		t.Errorf("from bit %d of %q: %q, %v, %v", r.At, r.Src[:min(len(r.Src), 40)], u, next, ok)
	}
}

// readAsUsed requires the set that the text has, or that it is refused.
func readAsUsed(t *testing.T, text string) bool {
	t.Helper()
	r := readerOfExactly(text)
	u, used, ok := usedOfText(text)
	if ok {
		gotUsed(t, r, u, r.At+used)
	} else {
		refusedGetUsed(t, r)
	}
	return ok
}

// gotOrder requires that r has this order, up to bit number end.
func gotOrder(t *testing.T, r impl.Rd, o string, end int) {
	t.Helper()
	got, next, ok := impl.GetOrder(r, usedIn(o))
	if !ok || got != o || next != (impl.Rd{Src: r.Src, At: end}) {
		t.Fatalf("from bit %d of %q: %q up to bit %d, %v, not %q up to bit %d", r.At, r.Src, got, next.At, ok, o, end)
	}
}

func refusedGetOrder(t *testing.T, r impl.Rd, u string) {
	t.Helper()
	if o, next, ok := impl.GetOrder(r, u); ok || o != "" || next != (impl.Rd{}) {
		t.Errorf("%q from bit %d of %q: %q, %v, %v", u, r.At, r.Src[:min(len(r.Src), 40)], o, next, ok)
	}
}

// readAsOrder requires the order that the text has, or that it is refused.
func readAsOrder(t *testing.T, text string, u string) bool {
	t.Helper()
	r := readerOfExactly(text)
	o, used, ok := orderOfText(text, u)
	if ok {
		gotOrder(t, r, o, r.At+used)
	} else {
		refusedGetOrder(t, r, u)
	}
	return ok
}

func refusedToRanks(t *testing.T, s string, o string) {
	t.Helper()
	if l, ok := impl.ToRanks(s, o); ok || len(l) != 0 {
		t.Errorf("%d bytes %q with %q: %v, %v", len(s), s[:min(len(s), 20)], o, l, ok)
	}
}

func refusedFromRanks(t *testing.T, l []int, o string) {
	t.Helper()
	if s, ok := impl.FromRanks(l, o); ok || s != "" {
		t.Errorf("%d ranks %v with %q: %q, %v", len(l), l[:min(len(l), 20)], o, s, ok)
	}
}

func TestAlphaExamples(t *testing.T) {
	if impl.MaxBlock != 600 {
		t.Error("MaxBlock", impl.MaxBlock)
	}
	if u := impl.Used("cabac"); u != "abc" {
		t.Error("Used", u)
	}
	if o := impl.ByCount("cabaca"); o != "acb" {
		t.Error("ByCount", o)
	}
	b, ok := impl.PutUsed("ab")
	if !ok || b != (impl.Bits{Data: "\x02\x00\x60\x00", N: 32}) {
		t.Error("PutUsed", b, ok)
	}
	gotUsed(t, impl.Rd{Src: "\x02\x00\x60\x00"}, "ab", 32)
	b, ok = impl.PutOrder("cab")
	if !ok || b != (impl.Bits{Data: "\x80", N: 3}) {
		t.Error("PutOrder", b, ok)
	}
	gotOrder(t, impl.Rd{Src: "\x80"}, "cab", 3)
	l, ok := impl.ToRanks("abba", "ba")
	if !ok || !slices.Equal(l, []int{1, 0, 0, 1}) {
		t.Error("ToRanks", l, ok)
	}
	if s, ok := impl.FromRanks([]int{1, 0, 0, 1}, "ba"); !ok || s != "abba" {
		t.Error("FromRanks", s, ok)
	}
}

func TestUsed(t *testing.T) {
	every := everyByte()
	for _, s := range slices.Concat(someStrings(), someSets(), []string{reversedBytes(every), every + every, strings.Repeat(every, 30), strings.Repeat("\xff", 5000) + "\x00", "\x80\x7f\x80"}) {
		if u := impl.Used(s); u != usedIn(s) {
			t.Errorf("%d bytes %q: %q", len(s), s[:min(len(s), 30)], u)
		}
	}
	for _, c := range [][2]string{{"", ""}, {"a", "a"}, {"aaaa", "a"}, {"ba", "ab"}, {"\xff\x00", "\x00\xff"}, {"\x80\x7f\x80", "\x7f\x80"}, {"ü", "\xbc\xc3"}, {reversedBytes(every), every}} {
		if u := impl.Used(c[0]); u != c[1] {
			t.Errorf("%q: %q", c[0], u)
		}
	}
	for i := range 256 {
		b := every[i : i+1]
		if u := impl.Used(b); u != b {
			t.Errorf("%q: %q", b, u)
		}
	}
}

func TestByCount(t *testing.T) {
	every := everyByte()
	for _, c := range [][2]string{
		{"", ""}, {"a", "a"}, {"aaa", "a"}, {"ba", "ab"}, {"ab", "ab"}, {"bba", "ba"}, {"baab", "ab"}, {"cbbaa", "abc"}, {"ccbba", "bca"},
		{"cccbba", "cba"}, {"\xff\xff\x00", "\xff\x00"}, {"\xff\x00", "\x00\xff"}, {"\x80\x7f", "\x7f\x80"}, {"dcba", "abcd"}, {"ddccbaba", "abcd"},
		{every, every}, {reversedBytes(every), every}, {every + "\xff", "\xff" + every[:255]}, {every + "\x80\x80\x7f", "\x80\x7f" + every[:127] + every[129:]},
		{strings.Repeat("b", 1000) + strings.Repeat("a", 999), "ba"}, {strings.Repeat("b", 256) + "a", "ba"}, {strings.Repeat("b", 65536) + "a", "ba"},
	} {
		if o := impl.ByCount(c[0]); o != c[1] {
			t.Errorf("%d bytes %q: %q, not %q", len(c[0]), c[0][:min(len(c[0]), 30)], o, c[1])
		}
	}
	for _, s := range append(someStrings(), someSets()...) {
		if o := impl.ByCount(s); o != byCountIn(s) {
			t.Errorf("%d bytes %q: %q", len(s), s[:min(len(s), 30)], o)
		}
	}
}

// TestByCountSteps has bytes whose frequencies rise, fall, or are equal for some of them.
func TestByCountSteps(t *testing.T) {
	source := rand.New(rand.NewSource(10))
	for most := 1; most <= 12; most++ {
		for range 30 {
			var s strings.Builder
			for _, b := range []byte(everyByte()) {
				for range source.Intn(most + 1) {
					s.WriteByte(b)
				}
			}
			text := shuffledBytes(source, s.String())
			if o := impl.ByCount(text); o != byCountIn(text) {
				t.Fatalf("%q: %q", text, o)
			}
		}
	}
	up := ""
	for i, b := range []byte(everyByte()) {
		up += strings.Repeat(string([]byte{b}), i+1)
	}
	if o := impl.ByCount(up); o != reversedBytes(everyByte()) {
		t.Errorf("rising: %q", o)
	}
	if o := impl.ByCount(up[1:]); o != reversedBytes(everyByte()[1:]) {
		t.Errorf("rising without the first: %q", o)
	}
}

func TestOrderOk(t *testing.T) {
	for _, o := range slices.Concat(someOrders(), someSets(), permutations("abcdef")) {
		if !impl.OrderOk(o) {
			t.Errorf("refused: %q", o)
		}
	}
	for _, o := range append(repeatedBytes(), "", strings.Repeat(everyByte(), 50)) {
		if impl.OrderOk(o) {
			t.Errorf("accepted: %d bytes %q", len(o), o)
		}
	}
	// All strings of up to five of four bytes.
	open := []string{""}
	for len(open) > 0 {
		o := open[0]
		open = open[1:]
		if impl.OrderOk(o) != (o != "" && len(usedIn(o)) == len(o)) {
			t.Errorf("%q: %v", o, impl.OrderOk(o))
		}
		if len(o) < 5 {
			open = append(open, o+"\x00", o+"\x7f", o+"\x80", o+"\xff")
		}
	}
}

// TestPutUsedTexts has the bits written out by hand.
func TestPutUsedTexts(t *testing.T) {
	for _, c := range []struct{ u, text string }{
		{"\x00", "1000000000000000" + "1000000000000000"},
		{"\x0f", "1000000000000000" + "0000000000000001"},
		{"\x10", "0100000000000000" + "1000000000000000"},
		{"\x1f", "0100000000000000" + "0000000000000001"},
		{"\x0f\x10", "1100000000000000" + "0000000000000001" + "1000000000000000"},
		{"\x00\x0f", "1000000000000000" + "1000000000000001"},
		{"\x7f", "0000000100000000" + "0000000000000001"},
		{"\x80", "0000000010000000" + "1000000000000000"},
		{"\xef\xf0", "0000000000000011" + "0000000000000001" + "1000000000000000"},
		{"\xf0", "0000000000000001" + "1000000000000000"},
		{"\xff", "0000000000000001" + "0000000000000001"},
		{"\x00\xff", "1000000000000001" + "1000000000000000" + "0000000000000001"},
		{"02a~", "0001001100000000" + "1010000000000000" + "0100000000000000" + "0000000000000010"},
		{everyByte(), strings.Repeat("1", 272)},
		{everyByte()[:255], strings.Repeat("1", 271) + "0"},
		{everyByte()[1:], strings.Repeat("1", 16) + "0" + strings.Repeat("1", 255)},
		{everyByte()[16:], "0" + strings.Repeat("1", 255)},
	} {
		b, ok := impl.PutUsed(c.u)
		if got := textOf(t, b); !ok || got != c.text {
			t.Errorf("%q: %s, %v, not %s", c.u, got, ok, c.text)
		}
		r := readerOfExactly(c.text)
		gotUsed(t, r, c.u, 8*len(r.Src))
	}
}

func TestPutUsed(t *testing.T) {
	for _, u := range someSets() {
		b, ok := impl.PutUsed(u)
		if got := textOf(t, b); !ok || got != usedText(u) {
			t.Errorf("%q: %s, %v", u, got, ok)
		}
	}
}

// TestUsedPairs writes and reads each byte alone and each pair.
func TestUsedPairs(t *testing.T) {
	for x := range 256 {
		for y := x; y < 256; y++ {
			u := usedIn(string([]byte{byte(x), byte(y)}))
			b, ok := impl.PutUsed(u)
			if !ok || textOf(t, b) != usedText(u) {
				t.Fatalf("%q: %q, %v", u, b.Data, ok)
			}
			gotUsed(t, impl.Rd{Src: b.Data}, u, b.N)
		}
	}
}

func TestPutUsedRefuses(t *testing.T) {
	for _, u := range append(noSets(), strings.Repeat("\x00", 100000), strings.Repeat(everyByte(), 300)) {
		if b, ok := impl.PutUsed(u); ok || b != (impl.Bits{}) {
			t.Errorf("%d bytes %q: %v, %v", len(u), u[:min(len(u), 30)], b, ok)
		}
	}
}

// TestGetUsedInverse reads what was written, at every bit of a byte, with different bits behind it.
func TestGetUsedInverse(t *testing.T) {
	for i, u := range someSets() {
		b, ok := impl.PutUsed(u)
		if !ok {
			t.Fatalf("%q", u)
		}
		text := textOf(t, b)
		for at := i % 3; at < 18; at += 3 {
			for _, behind := range []string{"", "0", "1", "10110", strings.Repeat("0", 40), strings.Repeat("1", 40)} {
				r, end := readerAt(at, text, '1')
				if behind != "" {
					r, _ = readerAt(at, text+behind, '0')
				}
				gotUsed(t, r, u, end)
			}
		}
	}
}

// TestGetUsedEnds has every part of the bits that ends within the groups, behind them, or within the bytes of a group.
func TestGetUsedEnds(t *testing.T) {
	for _, u := range someSets()[:130] {
		text := usedText(u)
		for n := range text {
			refusedGetUsed(t, readerOfExactly(text[:n]))
		}
		r := readerOfExactly(text)
		gotUsed(t, r, u, 8*len(r.Src))
	}
	for n := range 272 {
		refusedGetUsed(t, readerOfExactly(strings.Repeat("1", n)))
	}
}

// TestGetUsedAtEnd has readers that are valid, but have no bits left or a few.
func TestGetUsedAtEnd(t *testing.T) {
	for _, src := range []string{"", "\x00", "\xff", "\x80\x00", "\x80\x00\x80\x00", strings.Repeat("\xff", 40), "\x02\x00\x60\x00"} {
		for left := 0; left <= 8*len(src) && left < 20; left++ {
			refusedGetUsed(t, impl.Rd{Src: src, At: 8*len(src) - left})
		}
	}
}

// TestGetUsedHollow has no group, or one group without a byte among groups that have some.
func TestGetUsedHollow(t *testing.T) {
	empty, full := strings.Repeat("0", groupBytes), strings.Repeat("1", groupBytes)
	for _, behind := range []string{"", "1", full, empty, full + empty, strings.Repeat(full, 20)} {
		for at := range 8 {
			r, _ := readerAt(at, empty+behind, '1')
			refusedGetUsed(t, r)
		}
	}
	for g := range groupBytes {
		one := empty[:g] + "1" + empty[g+1:]
		for _, behind := range []string{"", "1", full, strings.Repeat(full, 20)} {
			refusedGetUsed(t, readerOfExactly(one+empty+behind))
			refusedGetUsed(t, readerOfExactly(full+strings.Repeat(full, g)+empty+strings.Repeat(full, 15-g)+behind))
			refusedGetUsed(t, readerOfExactly(full+strings.Repeat("0000000100000000", g)+empty+strings.Repeat("1000000000000000", 15-g)+behind))
		}
		for place := range groupBytes {
			member := empty[:place] + "1" + empty[place+1:]
			gotUsed(t, impl.Rd{Src: bitsOfText(one + member).Data}, string([]byte{byte(groupBytes*g + place)}), 32)
		}
	}
}

// TestGetUsedAnyBits reads texts with few and with many groups and bytes, some of them too short.
func TestGetUsedAnyBits(t *testing.T) {
	source := rand.New(rand.NewSource(11))
	read := 0
	for i := range 20000 {
		text := make([]byte, 32+source.Intn(300))
		for j := range text {
			text[j] = '0' + byte(min(1, source.Intn(2+i%9)/(1+i%8)))
		}
		if readAsUsed(t, string(text)) {
			read++
		}
		readAsUsed(t, string(text[:source.Intn(len(text))]))
	}
	if read < 2000 || read > 18000 {
		t.Errorf("%d texts of 20000 are read", read)
	}
}

// TestGetUsedEveryStart reads from every bit of the same bytes.
func TestGetUsedEveryStart(t *testing.T) {
	for _, src := range []string{"\x02\x00\x60\x00\x02\x00", "\x00\x01\x00\x01\x00\x00", strings.Repeat("\xff", 60), someBytes(120), strings.Repeat("\x10\x02\x00", 20)} {
		text := textOfBytes(src)
		for at := range len(text) + 1 {
			u, used, ok := usedOfText(text[at:])
			if ok {
				gotUsed(t, impl.Rd{Src: src, At: at}, u, at+used)
			} else {
				refusedGetUsed(t, impl.Rd{Src: src, At: at})
			}
		}
	}
}

func TestGetUsedRefuses(t *testing.T) {
	for _, r := range invalidReaders() {
		refusedGetUsed(t, r)
	}
	src := strings.Repeat("\xff", 40)
	for _, at := range append(badNumbers(), 8*len(src)+1, 8*len(src)+8, 16*len(src), -8*len(src), -2) {
		refusedGetUsed(t, impl.Rd{Src: src, At: at})
	}
}

// TestPutOrderTexts has the bits written out by hand.
func TestPutOrderTexts(t *testing.T) {
	for _, c := range []struct{ o, text string }{
		{"x", ""},
		{"\x00", ""},
		{"ab", "0"},
		{"ba", "1"},
		{"\x00\xff", "0"},
		{"\xff\x00", "1"},
		{"\x80\x7f", "1"},
		{"abc", "00" + "0"},
		{"acb", "00" + "1"},
		{"bac", "01" + "0"},
		{"bca", "01" + "1"},
		{"cab", "10" + "0"},
		{"cba", "10" + "1"},
		{"abcd", "00" + "00" + "0"},
		{"dcba", "11" + "10" + "1"},
		{"bdac", "01" + "10" + "0"},
		{"cadb", "10" + "00" + "1"},
		{"abcde", "000" + "00" + "00" + "0"},
		{"edcba", "100" + "11" + "10" + "1"},
		{"ebdac", "100" + "01" + "10" + "0"},
		{"hgfedcba", "111" + "110" + "101" + "100" + "11" + "10" + "1"},
		{"ihgfedcba", "1000" + "111" + "110" + "101" + "100" + "11" + "10" + "1"},
	} {
		b, ok := impl.PutOrder(c.o)
		if got := textOf(t, b); !ok || got != c.text {
			t.Errorf("%q: %s, %v, not %s", c.o, got, ok, c.text)
		}
		r := readerOfExactly(c.text)
		gotOrder(t, r, c.o, 8*len(r.Src))
	}
}

func TestPutOrder(t *testing.T) {
	for _, o := range someOrders() {
		size := 0
		for n := len(o); n > 1; n-- {
			size += indexWidth(n)
		}
		b, ok := impl.PutOrder(o)
		if got := textOf(t, b); !ok || got != orderText(o) || b.N != size {
			t.Fatalf("%q: %s of %d bits, %v", o, got, size, ok)
		}
		gotOrder(t, impl.Rd{Src: b.Data}, o, b.N)
	}
}

// TestPutOrderAll writes and reads all orders of up to seven bytes.
func TestPutOrderAll(t *testing.T) {
	for _, u := range []string{"a", "\x00\xff", "\x0f\x10\x11", "\x00\x01\xfe\xff", "abcde", "\x7e\x7f\x80\x81az", "02468ac"} {
		texts := map[string]bool{}
		for _, o := range permutations(usedIn(u)) {
			b, ok := impl.PutOrder(o)
			text := textOf(t, b)
			if !ok || text != orderText(o) || texts[text] {
				t.Fatalf("%q: %s, %v", o, text, ok)
			}
			texts[text] = true
			gotOrder(t, impl.Rd{Src: b.Data}, o, b.N)
		}
	}
}

func TestPutOrderRefuses(t *testing.T) {
	for _, o := range append(repeatedBytes(), "", strings.Repeat(everyByte(), 300)) {
		if b, ok := impl.PutOrder(o); ok || b != (impl.Bits{}) {
			t.Errorf("%d bytes %q: %v, %v", len(o), o[:min(len(o), 30)], b, ok)
		}
	}
}

// TestGetOrderInverse reads what was written, at every bit of a byte, with different bits behind it.
func TestGetOrderInverse(t *testing.T) {
	for _, o := range fewOrders() {
		b, ok := impl.PutOrder(o)
		if !ok {
			t.Fatalf("%q", o)
		}
		text := textOf(t, b)
		for at := range 17 {
			for _, behind := range []string{"", "0", "1", "10110", strings.Repeat("0", 40), strings.Repeat("1", 40)} {
				r, end := readerAt(at, text, '1')
				if behind != "" {
					r, _ = readerAt(at, text+behind, '0')
				}
				gotOrder(t, r, o, end)
			}
		}
	}
}

// TestGetOrderEnds has every part of the bits that ends within an index, or between two of them.
func TestGetOrderEnds(t *testing.T) {
	for _, o := range fewOrders() {
		text := orderText(o)
		step := 1 + len(text)/300
		for n := len(text) - 1; n >= 0; n -= step {
			refusedGetOrder(t, readerOfExactly(text[:n]), usedIn(o))
		}
		r := readerOfExactly(text)
		gotOrder(t, r, o, 8*len(r.Src))
	}
}

// TestGetOrderOne has one byte, which takes no bits: the reader stays where it is.
func TestGetOrderOne(t *testing.T) {
	for i := range 256 {
		o := everyByte()[i : i+1]
		for _, src := range []string{"", "\x00", "\xff", "\xff\x00\xff"} {
			for at := range 8*len(src) + 1 {
				gotOrder(t, impl.Rd{Src: src, At: at}, o, at)
			}
			refusedGetOrder(t, impl.Rd{Src: src, At: 8*len(src) + 1}, o)
			refusedGetOrder(t, impl.Rd{Src: src, At: -1}, o)
		}
	}
}

// TestGetOrderIndexes has every index for a list of each length, at the beginning and after other indices.
func TestGetOrderIndexes(t *testing.T) {
	every := everyByte()
	for _, before := range []int{0, 1, 5} {
		for n := 2; n+before <= 256; n++ {
			ahead := ""
			for i := range before {
				ahead += textOfNumber(0, indexWidth(n+before-i))
			}
			u := every[256-n-before:]
			behind := strings.Repeat("0", 256*8)
			width := indexWidth(n)
			for _, index := range []int{0, 1, n / 2, n - 1, n, n + 1, 1<<width - 1} {
				if index >= 1<<width {
					continue
				}
				r := readerOfExactly(ahead + textOfNumber(index, width) + behind)
				if index >= n {
					refusedGetOrder(t, r, u)
					continue
				}
				rest := u[before:]
				o := u[:before] + rest[index:index+1] + rest[:index] + rest[index+1:]
				gotOrder(t, r, o, r.At+len(orderText(o)))
			}
		}
	}
}

// TestGetOrderTooLarge has the least index that is too large in place of each index that can be.
func TestGetOrderTooLarge(t *testing.T) {
	u := everyByte()[:40]
	for n := 40; n >= 2; n-- {
		if 1<<indexWidth(n) == n {
			continue
		}
		text := ""
		for m := 40; m > n; m-- {
			text += textOfNumber(m-1, indexWidth(m))
		}
		last := orderText(reversedBytes(u))
		if !strings.HasPrefix(last, text) {
			t.Fatal(text)
		}
		for _, index := range []int{n, 1<<indexWidth(n) - 1} {
			for _, behind := range []string{"", "0", "1", strings.Repeat("0", 300), strings.Repeat("1", 300)} {
				refusedGetOrder(t, readerOfExactly(text+textOfNumber(index, indexWidth(n))+behind), u)
			}
		}
	}
}

// TestGetOrderAnyBits reads all texts of up to twelve bits.
func TestGetOrderAnyBits(t *testing.T) {
	for _, u := range []string{"a", "ab", "\x7f\x80\xff", "abcd", "\x00\x0f\x10\x1f\xff", "abcdef"} {
		for size := range 13 {
			for v := range 1 << size {
				readAsOrder(t, textOfNumber(v, size), u)
			}
		}
	}
}

// TestGetOrderLongerBits reads longer texts whose indices are seldom too large.
func TestGetOrderLongerBits(t *testing.T) {
	source := rand.New(rand.NewSource(12))
	read := 0
	for range 3000 {
		u := usedIn(shuffledBytes(source, everyByte())[:1+source.Intn(256)])
		text := []byte(orderText(shuffledBytes(source, u)))
		if len(text) > 0 && source.Intn(2) == 0 {
			text[source.Intn(len(text))] ^= 1
		}
		if readAsOrder(t, string(text)+someText(source.Intn(9)), u) {
			read++
		}
		readAsOrder(t, string(text[:source.Intn(len(text)+1)]), u)
	}
	if read < 1600 || read > 2950 {
		t.Errorf("%d texts of 3000 are read", read)
	}
}

func TestGetOrderRefuses(t *testing.T) {
	zeros := strings.Repeat("\x00", 400)
	for _, u := range append(noSets(), strings.Repeat(everyByte(), 300)) {
		refusedGetOrder(t, impl.Rd{Src: zeros}, u)
		refusedGetOrder(t, impl.Rd{Src: zeros, At: 13}, u)
		refusedGetOrder(t, impl.Rd{}, u)
		refusedGetOrder(t, impl.Rd{At: -1}, u)
	}
	for _, u := range []string{"", "a", "ab", "abc", "ba", "aa", everyByte()} {
		for _, r := range invalidReaders() {
			refusedGetOrder(t, r, u)
		}
		for _, at := range append(badNumbers(), 8*len(zeros)+1, 8*len(zeros)+8, 16*len(zeros), -2) {
			refusedGetOrder(t, impl.Rd{Src: zeros, At: at}, u)
		}
	}
}

// TestRanks holds each rank against the place of its byte, and takes the ranks back.
func TestRanks(t *testing.T) {
	source := rand.New(rand.NewSource(13))
	for _, o := range someOrders() {
		for _, n := range []int{0, 1, 2, 1 + source.Intn(60), impl.MaxBlock - 1, impl.MaxBlock} {
			s := make([]byte, n)
			want := make([]int, n)
			for i := range s {
				want[i] = source.Intn(len(o))
				if i < 2 {
					want[i] = i * (len(o) - 1)
				}
				s[i] = o[want[i]]
			}
			l, ok := impl.ToRanks(string(s), o)
			if !ok || !slices.Equal(l, want) {
				t.Fatalf("%q with %q: %v, %v", s, o, l, ok)
			}
			if got, ok := impl.FromRanks(want, o); !ok || got != string(s) {
				t.Fatalf("%v with %q: %q, %v", want, o, got, ok)
			}
		}
	}
}

// TestRanksAll has all strings of up to four bytes with all orders of up to four.
func TestRanksAll(t *testing.T) {
	for _, o := range slices.Concat(permutations("a"), permutations("ab"), permutations("\x00\x80\xff"), permutations("abcd")) {
		open := [][]int{nil}
		for len(open) > 0 {
			want := open[0]
			open = open[1:]
			s := ""
			for _, rank := range want {
				s += o[rank : rank+1]
			}
			l, ok := impl.ToRanks(s, o)
			got, is := impl.FromRanks(want, o)
			if !ok || !slices.Equal(l, want) || !is || got != s {
				t.Fatalf("%q with %q: %v, %v, and %q, %v", s, o, l, ok, got, is)
			}
			if len(want) < 4 {
				for rank := range len(o) {
					open = append(open, append(slices.Clone(want), rank))
				}
			}
		}
	}
}

// TestToRanksMissing has one byte that is not in the order, at each place of a string.
func TestToRanksMissing(t *testing.T) {
	for _, o := range []string{"a", "ba", "cab", "\x00", "\xff\x7f\x00", everyByte()[1:], everyByte()[:255]} {
		for i := range 256 {
			b := everyByte()[i : i+1]
			if strings.Contains(o, b) {
				continue
			}
			for _, n := range []int{0, 1, 2, 9, impl.MaxBlock - 1} {
				rest := strings.Repeat(o[len(o)-1:], n)
				refusedToRanks(t, b+rest, o)
				refusedToRanks(t, rest[:n/2]+b+rest[n/2:], o)
				refusedToRanks(t, rest+b, o)
			}
		}
	}
	for place := range impl.MaxBlock {
		s := strings.Repeat("ab", impl.MaxBlock/2)
		refusedToRanks(t, s[:place]+"c"+s[place+1:], "ba")
	}
}

// TestFromRanksOutside has one rank that is outside the order, at each place of a list.
func TestFromRanksOutside(t *testing.T) {
	for _, o := range []string{"a", "ba", "cab", "\xff\x7f\x00", everyByte()[1:], everyByte()} {
		for _, rank := range append(badNumbers(), -2, -len(o), -256, len(o), len(o)+1, 2*len(o), 256, 257, 512, 1<<32+1) {
			if rank >= 0 && rank < len(o) {
				continue
			}
			for _, n := range []int{1, 2, 3, 10, impl.MaxBlock} {
				for _, place := range []int{0, n / 2, n - 1} {
					l := slices.Repeat([]int{len(o) - 1}, n)
					l[place] = rank
					refusedFromRanks(t, l, o)
				}
			}
		}
	}
	for place := range impl.MaxBlock {
		l := slices.Repeat([]int{0, 1}, impl.MaxBlock/2)
		for _, rank := range []int{-1, 2} {
			l[place] = rank
			refusedFromRanks(t, l, "ba")
		}
	}
}

func TestRanksRefuse(t *testing.T) {
	for _, o := range append(repeatedBytes(), "", strings.Repeat(everyByte(), 300)) {
		for _, n := range []int{0, 1, 5} {
			refusedToRanks(t, strings.Repeat(o, n)[:min(n*len(o), impl.MaxBlock)], o)
			refusedToRanks(t, strings.Repeat("a", n), o)
			refusedFromRanks(t, make([]int, n), o)
		}
		refusedFromRanks(t, []int{1, 0}, o)
	}
	for _, n := range []int{impl.MaxBlock + 1, impl.MaxBlock + 2, 2 * impl.MaxBlock, impl.MaxRow, 100000} {
		for _, o := range []string{"a", "ba", "aa", "", everyByte()} {
			refusedToRanks(t, strings.Repeat("a", n), o)
			refusedFromRanks(t, make([]int, n), o)
		}
	}
}

// TestAlphaRecovers writes the set and the order of a string behind each other, and recovers the string from them and its ranks.
func TestAlphaRecovers(t *testing.T) {
	strs := []string{"a", "abracadabra", strings.Repeat("ab", 300), strings.Repeat("\xff\x00\x80", 200), everyByte() + everyByte(), someBytes(impl.MaxBlock)}
	for n := 1; n < 120; n++ {
		strs = append(strs, someBytes(5*n))
	}
	for i, s := range strs {
		u, o := impl.Used(s), impl.ByCount(s)
		first, _ := impl.PutUsed(u)
		second, _ := impl.PutOrder(o)
		all := bitsOfText(someText(i % 8))
		all, _ = impl.Join(all, first)
		all, ok := impl.Join(all, second)
		if !ok {
			t.Fatalf("%q", s)
		}
		u, r, ok := impl.GetUsed(impl.Rd{Src: all.Data, At: i % 8})
		if !ok || u != usedIn(s) {
			t.Fatalf("%q: %q, %v", s, u, ok)
		}
		o, r, ok = impl.GetOrder(r, u)
		if !ok || o != byCountIn(s) || r.At != all.N {
			t.Fatalf("%q: %q, %v", s, o, ok)
		}
		for _, order := range []string{o, u} {
			l, ok := impl.ToRanks(s, order)
			got, is := impl.FromRanks(l, order)
			if !ok || !is || got != s {
				t.Fatalf("%q with %q: %q, %v, %v", s, order, got, ok, is)
			}
		}
	}
}

// TestAlphaArguments passes parts of longer lists, all of which must stay as they were.
func TestAlphaArguments(t *testing.T) {
	for _, l := range [][]int{nil, {0}, {1, 0, 0, 1}, {2, 1, 0}, {-1}, {0, 1, 3}, make([]int, impl.MaxBlock), make([]int, impl.MaxBlock+1)} {
		all := slices.Concat([]int{-7}, l, []int{1, 0, 5, -5})
		kept := slices.Clone(all)
		for _, o := range []string{"a", "ba", "cab", "", "aa"} {
			impl.FromRanks(all[1:1+len(l)], o)
		}
		if !slices.Equal(all, kept) {
			t.Errorf("%v is %v", kept, all)
		}
	}
}

// TestAlphaKeepsNothing spoils results, and repeats calls with others in between.
func TestAlphaKeepsNothing(t *testing.T) {
	for _, s := range []string{"a", "cabaca", reversedBytes(everyByte()), someBytes(impl.MaxBlock)} {
		u, o := usedIn(s), byCountIn(s)
		usedBits, _ := impl.PutUsed(u)
		orderBits, _ := impl.PutOrder(o)
		first, _ := impl.ToRanks(s, o)
		kept := slices.Clone(first)
		spare := first[:cap(first)]
		for i := range spare {
			spare[i] = -9
		}
		for range 20 {
			impl.PutOrder("zyx")
			impl.PutOrder("aa")
			impl.GetOrder(impl.Rd{Src: "\xc0"}, "abc")
			impl.GetUsed(impl.Rd{Src: "\xff\xff\x00\x01\x00\x00"})
			impl.FromRanks([]int{1, 7}, "ab")
			impl.ToRanks("xyz", "xy")
			if impl.Used(s) != u || impl.ByCount(s) != o || !impl.OrderOk(o) {
				t.Fatalf("%q: %q and %q", s, impl.Used(s), impl.ByCount(s))
			}
			again, _ := impl.PutUsed(u)
			second, _ := impl.PutOrder(o)
			l, _ := impl.ToRanks(s, o)
			if again != usedBits || second != orderBits || !slices.Equal(l, kept) {
				t.Fatalf("%q: %v, %v and %v", s, again, second, l)
			}
			gotUsed(t, impl.Rd{Src: usedBits.Data}, u, usedBits.N)
			gotOrder(t, impl.Rd{Src: orderBits.Data}, o, orderBits.N)
			if got, ok := impl.FromRanks(kept, o); !ok || got != s {
				t.Fatalf("%q: %q, %v", s, got, ok)
			}
		}
	}
}
