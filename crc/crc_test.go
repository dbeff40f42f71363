package crc_test

import (
	"bytes"
	"hash/crc32"
	"testing"

	"rosette/crc"
)

// mixed tells n bytes without a plain order, the same ones each time.
func mixed(n int) []byte {
	b := make([]byte, n)
	x := uint32(n) + 1
	for k := range b {
		x = x*1664525 + 1013904223
		b[k] = byte(x >> 24)
	}
	return b
}

// turned tells b with the bits at these places turned, counted from the lowest of the first byte on.
func turned(b []byte, places ...int) []byte {
	c := bytes.Clone(b)
	for _, p := range places {
		c[p/8] ^= 1 << (p % 8)
	}
	return c
}

func mustNotOpen(t *testing.T, b []byte, what ...any) {
	t.Helper()
	if x, ok := crc.Open(b); ok || len(x) != 0 {
		t.Fatal("opened:", len(b), "bytes", what)
	}
}

// P1.1: the numbers that the rule gives, worked out by it and by the library.
func TestTable(t *testing.T) {
	table := crc.Table()
	for n, got := range table {
		want := uint32(n)
		for range 8 {
			if want%2 == 1 {
				want = want/2 ^ 0xedb88320
			} else {
				want /= 2
			}
		}
		if got != want || got != crc32.IEEETable[n] {
			t.Errorf("Table at %d: %x, not %x", n, got, want)
		}
	}
	for n, want := range map[int]uint32{0: 0, 1: 0x77073096, 128: 0xedb88320, 255: 0x2d02ef8d} {
		if table[n] != want {
			t.Errorf("Table at %d: %x, not %x", n, table[n], want)
		}
	}
}

// P1.2: sums of ordinary bytes, of none, and of as many as a sum, a table, a frame, or the longest seal has.
func TestSum(t *testing.T) {
	for text, want := range map[string]uint32{
		"":                 0,
		"\x00":             0xd202ef8d,
		"a":                0xe8b7be43,
		"123456789":        0xcbf43926,
		"\xff\xff\xff\xff": 0xffffffff,
		"\x00\x00\x00\x00": 0x2144df1c,
	} {
		if got := crc.Sum([]byte(text)); got != want {
			t.Errorf("Sum of %q: %x, not %x", text, got, want)
		}
	}
	if crc.Sum(nil) != 0 || crc.Sum([]byte{}) != 0 {
		t.Error("Sum of nothing")
	}
	for _, n := range []int{1, 2, 3, 4, 5, 255, 256, 257, 8192, 11000} {
		if b := mixed(n); crc.Sum(b) != crc32.ChecksumIEEE(b) {
			t.Errorf("Sum of %d bytes: %x", n, crc.Sum(b))
		}
	}
}

// P1.2: Add goes on from whatever sum it is handed; behind no bytes at all it tells that sum.
func TestAdd(t *testing.T) {
	b := mixed(40)
	for _, sum := range []uint32{0, 1, 0x80, 0x7fffffff, 0x80000000, 0xcbf43926, 0xffffffff} {
		if got := crc.Add(sum, nil); got != sum {
			t.Errorf("Add of %x and nothing: %x", sum, got)
		}
		if got, want := crc.Add(sum, b), crc32.Update(sum, crc32.IEEETable, b); got != want {
			t.Errorf("Add of %x: %x, not %x", sum, got, want)
		}
		rest, table := ^sum, crc.Table()
		for _, x := range b {
			rest = table[rest&255^uint32(x)] ^ rest>>8
		}
		if got := crc.Add(sum, b); got != ^rest {
			t.Errorf("Add of %x: %x, not by the Table", sum, got)
		}
	}
	if crc.Add(0, b) != crc.Sum(b) {
		t.Error("Add of 0 is not Sum")
	}
}

// P1.3: the sum's bytes stand behind, the lowest first; what was sealed is opened.
func TestSealAndOpen(t *testing.T) {
	if got := crc.Seal([]byte("123456789")); string(got) != "123456789\x26\x39\xf4\xcb" {
		t.Errorf("Seal: %x", got)
	}
	for _, none := range [][]byte{nil, {}} {
		if got := crc.Seal(none); string(got) != "\x00\x00\x00\x00" {
			t.Errorf("Seal of nothing: %x", got)
		}
	}
	if x, ok := crc.Open(make([]byte, 4)); !ok || len(x) != 0 {
		t.Error("Open of nothing's seal:", x, ok)
	}
	for _, n := range []int{0, 1, 2, 3, 4, 5, 63, 64, 65, 300, 8192} {
		b := mixed(n)
		if x, ok := crc.Open(crc.Seal(b)); !ok || !bytes.Equal(x, b) {
			t.Errorf("Open of Seal of %d bytes: %x %v", n, x, ok)
		}
		if x, ok := crc.Open(crc.Seal(crc.Seal(b))); !ok || !bytes.Equal(x, crc.Seal(b)) {
			t.Errorf("Open of Seal of Seal of %d bytes: %x %v", n, x, ok)
		}
	}
}

// P1.3: what is nobody's seal is not opened.
func TestOpenNothing(t *testing.T) {
	for n := range 4 {
		mustNotOpen(t, make([]byte, n), "too few")
		mustNotOpen(t, bytes.Repeat([]byte{0xff}, n), "too few")
	}
	mustNotOpen(t, nil)
	mustNotOpen(t, make([]byte, 5), "zeros")
	mustNotOpen(t, []byte("123456789\xcb\xf4\x39\x26"), "the highest first")
	mustNotOpen(t, []byte("\x26\x39\xf4\xcb123456789"), "the sum ahead")
	sealed := crc.Seal(mixed(20))
	for n := range sealed {
		mustNotOpen(t, sealed[:n], "cut off")
	}
	mustNotOpen(t, append(bytes.Clone(sealed), 1), "one more")
	mustNotOpen(t, sealed[1:], "the first one missing")
}

// P1.4: neither what is handed in nor its spare room is changed.
func TestHandedInStays(t *testing.T) {
	for _, n := range []int{0, 1, 9} {
		whole := bytes.Repeat([]byte{0x5a}, n+32)
		copy(whole, crc.Seal(mixed(n)))
		before := bytes.Clone(whole)
		crc.Seal(whole[:n])
		crc.Sum(whole[:n])
		crc.Add(7, whole[:n])
		if _, ok := crc.Open(whole[:n+4]); !ok {
			t.Error("Open of", n)
		}
		crc.Open(whole[:n+5])
		if !bytes.Equal(whole, before) {
			t.Errorf("%d bytes: %x became %x", n, before, whole)
		}
	}
}

// P1.4: what is answered is shared with nobody, spare room too.
func TestAnswersAreNew(t *testing.T) {
	b := mixed(9)
	whole := append(make([]byte, 0, 64), b...)
	calls := map[string]func() []byte{
		"Seal": func() []byte { return crc.Seal(whole[:9]) },
		"Open": func() []byte { x, _ := crc.Open(whole[:13]); return x },
	}
	copy(whole[:13], crc.Seal(b))
	for name, call := range calls {
		before, first, second := bytes.Clone(whole[:64]), call(), call()
		kept := bytes.Clone(second)
		clear(first[:cap(first)])
		if !bytes.Equal(whole[:64], before) || !bytes.Equal(second, kept) {
			t.Error(name, "shares what it answers")
		}
		clear(whole[:64])
		if !bytes.Equal(second, kept) {
			t.Error(name, "keeps what it was handed")
		}
		copy(whole[:64], before)
		if !bytes.Equal(call(), kept) {
			t.Error(name, "tells something else the next time")
		}
	}
	table := crc.Table()
	clear(table[:])
	if table == crc.Table() || crc.Sum([]byte("123456789")) != 0xcbf43926 {
		t.Error("Table is kept")
	}
}

// P1.5: however bytes are cut into pieces, empty ones too, the sum is the same.
func TestPieceByPiece(t *testing.T) {
	b := mixed(24)
	want := crc.Sum(b)
	for i := range len(b) + 1 {
		for j := i; j <= len(b); j++ {
			sum := crc.Add(crc.Add(crc.Sum(b[:i]), b[i:j]), b[j:])
			if sum != want {
				t.Fatalf("cut at %d and %d: %x, not %x", i, j, sum, want)
			}
		}
	}
	sum := crc.Sum(nil)
	for k := range b {
		sum = crc.Add(sum, b[k:k+1])
	}
	if sum != want {
		t.Errorf("byte by byte: %x, not %x", sum, want)
	}
}

// P1.5: all ones, twos and threes of turned bits of short seals.
func TestFewBitsTurned(t *testing.T) {
	for _, n := range []int{0, 1, 4} {
		sealed := crc.Seal(mixed(n))
		bits := 8 * len(sealed)
		for i := range bits {
			mustNotOpen(t, turned(sealed, i), i)
			for j := range i {
				mustNotOpen(t, turned(sealed, i, j), i, j)
				for k := range j {
					mustNotOpen(t, turned(sealed, i, j, k), i, j, k)
				}
			}
		}
	}
}

// P1.5: of the longest seal bits at both ends and between, one to three of them.
func TestFewBitsOfManyTurned(t *testing.T) {
	sealed := crc.Seal(mixed(11000 - 4))
	bits := 8 * len(sealed)
	if bits != 88000 {
		t.Fatal(bits)
	}
	places := []int{0, 1, 7, 8, 32767, 32768, 65535, 65536, bits - 33, bits - 32, bits - 8, bits - 1}
	for n, i := range places {
		mustNotOpen(t, turned(sealed, i), i)
		for m, j := range places[:n] {
			mustNotOpen(t, turned(sealed, i, j), i, j)
			for _, k := range places[:m] {
				mustNotOpen(t, turned(sealed, i, j, k), i, j, k)
			}
		}
	}
}

// traces tells, for each bit of a seal of so many bytes, from the last one on, what turning it does to the sum held against the one behind.
func traces(size int) []uint32 {
	var out []uint32
	for bit := 31; bit >= 0; bit-- {
		out = append(out, 1<<bit)
	}
	zero := []byte{0}
	plain := crc.Sum(zero)
	var other [8]uint32
	for bit := range other {
		other[bit] = crc.Sum([]byte{1 << bit})
	}
	for range size - 4 {
		for bit := 7; bit >= 0; bit-- {
			out = append(out, other[bit]^plain)
			other[bit] = crc.Add(other[bit], zero)
		}
		plain = crc.Add(plain, zero)
	}
	return out
}

// P1.5: no one, two or three bits of the longest seal hide each other, nor do some within thirty-two.
// Each trace is the one behind it, shifted by the Table's rule, which loses nothing: so bits hide each
// other only if they do so with the last of them at the seal's end, and those alone must be looked at.
func TestNoTurnedBitsHide(t *testing.T) {
	all := traces(11000)
	if len(all) != 88000 {
		t.Fatal(len(all))
	}
	at := map[uint32]int{}
	for n, x := range all {
		if n > 0 && x != all[n-1]>>1^all[n-1]&1*0xedb88320 {
			t.Fatalf("the trace of bit %d does not follow the one behind it", n)
		}
		if m, twice := at[x]; twice || x == 0 {
			t.Fatalf("bits %d and %d hide each other, or one itself", m, n)
		}
		at[x] = n
	}
	for n, x := range all {
		if m, hidden := at[x^all[0]]; hidden {
			t.Fatalf("bits 0, %d and %d hide each other", n, m)
		}
	}
	met := uint32(0)
	for _, x := range all[:32] {
		if x&(x-1) != 0 || met&x != 0 {
			t.Fatal("the last thirty-two traces are not a bit each")
		}
		met |= x
	}
}

// P1.5: some bits within thirty-two that stand one behind the other, wherever they begin.
func TestBitsTurnedWithinThirtyTwo(t *testing.T) {
	shapes := []uint32{1, 3, 1<<31 | 1, 0xffff, 0xffffff, 0x7fffffff, 0xffffffff, 0xaaaaaaaa, 0x55555555, 0xedb88320, 0xdb710641, 0x04c11db7}
	x := uint32(1)
	for range 20 {
		x = x*1664525 + 1013904223
		shapes = append(shapes, x|1)
	}
	for _, n := range []int{0, 1, 5, 64} {
		sealed := crc.Seal(mixed(n))
		for start := range 8*len(sealed) - 31 {
			for _, shape := range shapes {
				var places []int
				for bit := range 32 {
					if shape>>bit&1 == 1 {
						places = append(places, start+bit)
					}
				}
				mustNotOpen(t, turned(sealed, places...), start, shape)
			}
		}
	}
}
