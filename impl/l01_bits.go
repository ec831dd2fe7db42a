package impl

const MaxBits = 400000

// wordBits is the largest number of bits that one Put or one Get handles.
const wordBits = 32

type Bits struct {
	Data string
	N    int
}

type Rd struct {
	Src string
	At  int
}

// bitWriter keeps its bytes in a slice so that many appended values cost one
// string, where a chain of Put calls would copy the whole string each time.
// The bits of data behind the n-th are always 0.
type bitWriter struct {
	data []byte
	n    int
}

// bitReader is a Rd that is known to be valid, and that moves as it is read.
type bitReader Rd

func writerOf(b Bits) *bitWriter {
	return &bitWriter{data: []byte(b.Data), n: b.N}
}

// put relies on its caller for n in 0 .. wordBits and v in 0 .. 2^n - 1.
func (w *bitWriter) put(v int, n int) {
	for n > 0 {
		free := upToByte(w.n)
		if free == 0 {
			w.data = append(w.data, 0)
			free = 8
		}
		k := min(n, free)
		n -= k
		part := v >> n & (1<<k - 1)
		w.data[len(w.data)-1] |= byte(part << (free - k))
		w.n += k
	}
}

// join relies on its caller for a valid b.
func (w *bitWriter) join(b Bits) {
	r := bitReader{Src: b.Data}
	for r.At < b.N {
		k := min(b.N-r.At, wordBits)
		w.put(r.take(k), k)
	}
}

func (w *bitWriter) bits() Bits {
	return Bits{Data: string(w.data), N: w.n}
}

// take relies on its caller for n in 0 .. wordBits and n bits that are left.
func (r *bitReader) take(n int) int {
	v := 0
	for n > 0 {
		left := 8 - r.At%8
		k := min(n, left)
		part := int(r.Src[r.At/8]) >> (left - k) & (1<<k - 1)
		v = v<<k | part
		r.At += k
		n -= k
	}
	return v
}

// upToByte returns the distance from bit number n to the next multiple of 8.
func upToByte(n int) int {
	return -n & 7
}

func BitsOk(b Bits) bool {
	if b.N < 0 || b.N > MaxBits || len(b.Data) != (b.N+7)/8 {
		return false
	}
	used := b.N % 8
	return used == 0 || b.Data[len(b.Data)-1]<<used == 0
}

func Put(b Bits, v int, n int) (Bits, bool) {
	if !BitsOk(b) || n < 0 || n > wordBits || v < 0 || v>>n != 0 || n > MaxBits-b.N {
		return Bits{}, false
	}
	w := writerOf(b)
	w.put(v, n)
	return w.bits(), true
}

func Join(a Bits, b Bits) (Bits, bool) {
	if !BitsOk(a) || !BitsOk(b) || b.N > MaxBits-a.N {
		return Bits{}, false
	}
	w := writerOf(a)
	w.join(b)
	return w.bits(), true
}

func Fill(b Bits) Bits {
	// Put fails only if b is not valid: MaxBits is a multiple of 8 itself.
	full, _ := Put(b, 0, upToByte(b.N))
	return full
}

func BitsOf(s string) (Bits, bool) {
	// Join refuses a string that is too long.
	return Join(Bits{}, Bits{Data: s, N: 8 * len(s)})
}

func RdOk(r Rd) bool {
	return r.At >= 0 && r.At <= 8*len(r.Src)
}

func Left(r Rd) int {
	if !RdOk(r) {
		return -1
	}
	return 8*len(r.Src) - r.At
}

func Get(r Rd, n int) (int, Rd, bool) {
	// Left is -1 for a reader that is not valid, so that no n passes.
	if n < 0 || n > wordBits || n > Left(r) {
		return 0, Rd{}, false
	}
	reader := bitReader(r)
	v := reader.take(n)
	return v, Rd(reader), true
}

func ToByte(r Rd) (Rd, bool) {
	skipped, next, ok := Get(r, upToByte(r.At))
	if !ok || skipped != 0 {
		return Rd{}, false
	}
	return next, true
}
