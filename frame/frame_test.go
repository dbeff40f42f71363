package frame_test

import (
	"bytes"
	"hash/crc32"
	"testing"

	"rosette/api"
	"rosette/frame"
)

// mixed tells n bytes without a plain order, the same ones each time.
func mixed(n int) []byte {
	b := make([]byte, n)
	x := uint32(n) + 1
	for k := range b {
		x = x*1664525 + 1013904223
		b[k] = byte(x >> 24)
	}
	return b
}

// seal tells b and its sum, by the library.
func seal(b ...byte) []byte {
	sum := crc32.ChecksumIEEE(b)
	return append(bytes.Clone(b), byte(sum), byte(sum>>8), byte(sum>>16), byte(sum>>24))
}

// headOf tells the sealed bytes of a length, whatever it is.
func headOf(n int) []byte {
	return seal(byte(n%256), byte(n/256))
}

// framed tells the frame of b as the document says it, whatever b's length.
func framed(b []byte) []byte {
	return append(headOf(len(b)), seal(b...)...)
}

// turned tells b with the bits at these places turned, counted from the lowest of the first byte on.
func turned(b []byte, places ...int) []byte {
	c := bytes.Clone(b)
	for _, p := range places {
		c[p/8] ^= 1 << (p % 8)
	}
	return c
}

// spoil tells b with its byte at that place changed.
func spoil(b []byte, place int) []byte {
	return turned(b, 8*place+3)
}

// joined tells all parts, one behind the other.
func joined(parts ...[]byte) []byte {
	return bytes.Join(parts, nil)
}

// lengths tells how many bytes are framed in these tests: few, the edges of bytes, and the most.
func lengths() []int {
	return []int{0, 1, 2, 3, 9, 63, 64, 254, 255, 256, 257, 300, 511, 512, 4096, 8191, 8192}
}

// P3.1: a frame is the sealed length and the sealed bytes.
func TestMake(t *testing.T) {
	for _, n := range lengths() {
		b := mixed(n)
		got, e := frame.Make(b)
		if e != api.OK || !bytes.Equal(got, framed(b)) || len(got) != n+10 {
			t.Errorf("Make of %d bytes: %d bytes, %v", n, len(got), e)
		}
	}
	for _, none := range [][]byte{nil, {}} {
		got, e := frame.Make(none)
		if e != api.OK || string(got) != "\x00\x00\xff\x12\xd9\x41\x00\x00\x00\x00" {
			t.Errorf("Make of nothing: %x %v", got, e)
		}
	}
}

// P3.1: more than 8192 bytes are not framed.
func TestMakeTooMuch(t *testing.T) {
	for _, n := range []int{8193, 8194, 16384, 65535, 65536, 65537, 65536 + 8192, 1 << 20} {
		if got, e := frame.Make(make([]byte, n)); e != api.ErrLimit || len(got) != 0 {
			t.Errorf("Make of %d bytes: %d bytes, %v", n, len(got), e)
		}
	}
}

// P3.2, P3.5: what was framed is found, whatever stands behind it.
func TestNext(t *testing.T) {
	for _, n := range lengths() {
		b := mixed(n)
		whole, _ := frame.Make(b)
		for _, behind := range [][]byte{nil, {0}, {255}, make([]byte, 6), whole, mixed(9000)} {
			got, size, e := frame.Next(joined(whole, behind))
			if e != api.OK || size != n+10 || !bytes.Equal(got, b) {
				t.Errorf("Next of %d framed bytes and %d: %d bytes, %d, %v", n, len(behind), len(got), size, e)
			}
		}
	}
}

// wrong is bytes that no frame stands ahead of, and what is told of them.
type wrong struct {
	name string
	b    []byte
	err  api.Errno
}

// wrongs tells bytes of each kind of fault, and some in which two are at once: the one that is named first is told.
func wrongs() []wrong {
	whole, big := framed(mixed(20)), framed(mixed(8192))
	out := []wrong{
		{"a head that is not sealed", spoil(whole, 0), api.ErrSum},
		{"a head whose sum is spoilt", spoil(whole, 5), api.ErrSum},
		{"six zeros", make([]byte, 6), api.ErrSum},
		{"a head that is not sealed, and nothing behind", spoil(headOf(20), 1), api.ErrSum},
		{"a head that is not sealed and tells too much", spoil(headOf(8193), 5), api.ErrSum},
		{"a head with its higher byte first", joined(seal(0, 20), seal(mixed(20)...)), api.ErrShort},
		{"a head with its sum's highest byte first", joined([]byte{0, 0, 0x41, 0xd9, 0x12, 0xff}, make([]byte, 4)), api.ErrSum},
		{"8193, and all its bytes", framed(mixed(8193)), api.ErrLimit},
		{"8193, and nothing behind", headOf(8193), api.ErrLimit},
		{"8193, and zeros", joined(headOf(8193), make([]byte, 9000)), api.ErrLimit},
		{"65535, and nothing behind", headOf(65535), api.ErrLimit},
		{"65535, and all its bytes", framed(mixed(65535)), api.ErrLimit},
		{"8192, and nothing behind", headOf(8192), api.ErrShort},
		{"nothing, and nothing behind", headOf(0), api.ErrShort},
		{"nothing, and a sum that is too short", joined(headOf(0), make([]byte, 3)), api.ErrShort},
		{"the last byte is missing", whole[:len(whole)-1], api.ErrShort},
		{"the last byte of the most is missing", big[:len(big)-1], api.ErrShort},
		{"the last byte is missing, and a spoilt text", spoil(whole[:len(whole)-1], 10), api.ErrShort},
		{"a text that is not sealed", spoil(whole, 6), api.ErrSum},
		{"a text whose sum is spoilt", spoil(whole, len(whole)-1), api.ErrSum},
		{"a spoilt text of the most", spoil(big, 5000), api.ErrSum},
		{"a sum of nothing that is not 0", joined(headOf(0), []byte{0, 0, 0, 1}), api.ErrSum},
		{"one less than there are", joined(headOf(19), whole[6:]), api.ErrSum},
		{"one more than there are", joined(headOf(21), whole[6:]), api.ErrShort},
		{"one more than there are, and another one", joined(headOf(21), whole[6:], whole), api.ErrSum},
	}
	for n := 1; n < 6; n++ {
		out = append(out,
			wrong{"too few of a frame", whole[:n], api.ErrShort},
			wrong{"too few, and spoilt", bytes.Repeat([]byte{255}, n), api.ErrShort},
			wrong{"too few zeros", make([]byte, n), api.ErrShort})
	}
	return out
}

// P3.2: each fault, with nothing beside it.
func TestNextOfWrongBytes(t *testing.T) {
	for _, w := range wrongs() {
		if got, size, e := frame.Next(w.b); e != w.err || size != 0 || len(got) != 0 {
			t.Errorf("%s: %d bytes, %d, %v, not %v", w.name, len(got), size, e, w.err)
		}
	}
	for _, none := range [][]byte{nil, {}} {
		if got, size, e := frame.Next(none); e != api.ErrShort || size != 0 || len(got) != 0 {
			t.Errorf("nothing: %x, %d, %v", got, size, e)
		}
	}
}

// P3.2: of a head of each length there is: short, or too much.
func TestNextOfEachLength(t *testing.T) {
	for n := range 65536 {
		want := api.ErrShort
		if n > 8192 {
			want = api.ErrLimit
		}
		if got, size, e := frame.Next(joined(headOf(n), []byte{1, 2, 3})); e != want || size != 0 || len(got) != 0 {
			t.Fatalf("a head of %d: %x, %d, %v", n, got, size, e)
		}
	}
}

func mustBeAll(t *testing.T, name string, b []byte, want [][]byte, end int, err api.Errno) {
	t.Helper()
	all, got, e := frame.All(b)
	if len(all) != len(want) || got != end || e != err {
		t.Errorf("%s: %d frames, %d, %v, not %d, %d, %v", name, len(all), got, e, len(want), end, err)
		return
	}
	for k, x := range all {
		if !bytes.Equal(x, want[k]) {
			t.Errorf("%s: what is framed by the one at %d: %x", name, k, x)
		}
	}
}

// P3.3: all frames of a row, and where the last one ends, if no bytes are left.
func TestAll(t *testing.T) {
	mustBeAll(t, "nil", nil, nil, 0, api.OK)
	mustBeAll(t, "empty", []byte{}, nil, 0, api.OK)
	var row []byte
	var want [][]byte
	for _, n := range append(lengths(), 0, 0, 8192, 1) {
		row = append(row, framed(mixed(n))...)
		want = append(want, mixed(n))
		mustBeAll(t, "a row", row, want, len(row), api.OK)
		mustBeAll(t, "one alone", framed(mixed(n)), [][]byte{mixed(n)}, n+10, api.OK)
	}
}

// P3.3: behind whatever frames, a fault ends them, and is told beside them; none behind it is found.
func TestAllOfWrongBytes(t *testing.T) {
	whole := framed(mixed(5))
	for _, w := range wrongs() {
		mustBeAll(t, w.name, w.b, nil, 0, w.err)
		for n := range 4 {
			row, want := []byte{}, [][]byte{}
			for k := range n {
				row = append(row, framed(mixed(k*100))...)
				want = append(want, mixed(k*100))
			}
			end := len(row)
			mustBeAll(t, w.name+", behind some", joined(row, w.b), want, end, w.err)
			if w.err == api.ErrSum || w.err == api.ErrLimit {
				mustBeAll(t, w.name+", between some", joined(row, w.b, whole), want, end, w.err)
			}
		}
	}
}

// P3.3: a row that ends anywhere has just the frames that end ahead of that.
func TestAllOfEachBeginning(t *testing.T) {
	parts := [][]byte{mixed(3), {}, mixed(17), {}, {}, mixed(1)}
	var row []byte
	ends := map[int]int{0: 0}
	for k, p := range parts {
		row = append(row, framed(p)...)
		ends[len(row)] = k + 1
	}
	end := 0
	for n := range len(row) + 1 {
		want := api.ErrShort
		if _, ok := ends[n]; ok {
			end, want = n, api.OK
		}
		mustBeAll(t, "a beginning", row[:n], parts[:ends[end]], end, want)
	}
}

// P3.4: neither what is handed in nor its spare room is changed.
func TestHandedInStays(t *testing.T) {
	row := joined(framed(mixed(4)), framed(nil), framed(mixed(9)))
	for _, b := range [][]byte{nil, mixed(7), row, row[:len(row)-1], spoil(row, 8), spoil(row, 20), headOf(9000)} {
		whole := bytes.Repeat([]byte{0x5a}, len(b)+64)
		copy(whole, b)
		before := bytes.Clone(whole)
		handed := whole[:len(b)]
		frame.Make(handed)
		frame.Next(handed)
		frame.All(handed)
		if !bytes.Equal(whole, before) {
			t.Errorf("%x became %x", before, whole)
		}
	}
}

// filled turns all bytes of b and of its spare room.
func filled(b []byte) {
	b = b[:cap(b)]
	for k := range b {
		b[k] ^= 0xff
	}
}

// P3.4: what is answered shares nothing with what was handed in, nor with another answer.
func TestAnswersAreNew(t *testing.T) {
	parts := [][]byte{mixed(4), mixed(40), mixed(9)}
	row := joined(framed(parts[0]), framed(parts[1]), framed(parts[2]))
	whole := append(make([]byte, 0, 2*len(row)), row...)
	calls := map[string]func() []byte{
		"Make": func() []byte { x, _ := frame.Make(whole); return x },
		"Next": func() []byte { x, _, _ := frame.Next(whole); return x },
	}
	for name, call := range calls {
		first, second := call(), call()
		kept := bytes.Clone(second)
		filled(first)
		if !bytes.Equal(whole, row) || !bytes.Equal(second, kept) {
			t.Error(name, "shares what it answers")
		}
		filled(whole)
		if !bytes.Equal(second, kept) {
			t.Error(name, "keeps what it was handed")
		}
		filled(whole)
		if !bytes.Equal(call(), kept) {
			t.Error(name, "tells something else the next time")
		}
	}
}

// P3.4: the lists within All's answer share nothing either, spare room too.
func TestAllIsNewInAllDepths(t *testing.T) {
	parts := [][]byte{mixed(4), mixed(40), {}, mixed(9)}
	var row []byte
	for _, p := range parts {
		row = append(row, framed(p)...)
	}
	whole := append(make([]byte, 0, 2*len(row)), row...)
	for k := range parts {
		first, _, _ := frame.All(whole)
		second, _, _ := frame.All(whole)
		filled(first[k])
		for n := range parts {
			if n != k && !bytes.Equal(first[n], parts[n]) || !bytes.Equal(second[n], parts[n]) {
				t.Error("what is framed at", n, "is shared with the one at", k)
			}
		}
		clear(second[:cap(second)])
		for n := range parts {
			if n != k && !bytes.Equal(first[n], parts[n]) {
				t.Error("two answers share their list")
			}
		}
		if !bytes.Equal(whole, row) {
			t.Fatal("All shares what it was handed")
		}
	}
	all, _, _ := frame.All(whole)
	filled(whole)
	for n, p := range parts {
		if !bytes.Equal(all[n], p) {
			t.Error("All keeps what it was handed, at", n)
		}
	}
}

func mustNotBeFound(t *testing.T, b []byte, what ...any) {
	t.Helper()
	if got, size, e := frame.Next(b); e == api.OK || size != 0 || len(got) != 0 {
		t.Fatal("found:", len(got), "bytes", size, e, what)
	}
	if all, end, e := frame.All(b); e == api.OK || end != 0 || len(all) != 0 {
		t.Fatal("found among all:", len(all), end, e, what)
	}
}

// P3.5: all ones and twos of turned bits of short frames, and all threes of the shortest.
func TestFewBitsTurned(t *testing.T) {
	for _, n := range []int{0, 1, 7} {
		whole, _ := frame.Make(mixed(n))
		bits := 8 * len(whole)
		for i := range bits {
			mustNotBeFound(t, turned(whole, i), i)
			for j := range i {
				mustNotBeFound(t, turned(whole, i, j), i, j)
				if n > 0 {
					continue
				}
				for k := range j {
					mustNotBeFound(t, turned(whole, i, j, k), i, j, k)
				}
			}
		}
	}
}

// P3.5: of the longest frame bits at its ends, around its head's, and between, one to three of them.
func TestFewBitsOfManyTurned(t *testing.T) {
	whole, _ := frame.Make(mixed(8192))
	bits := 8 * len(whole)
	places := []int{0, 13, 14, 15, 16, 47, 48, 49, 32767, 65535, bits - 33, bits - 32, bits - 1}
	for n, i := range places {
		mustNotBeFound(t, turned(whole, i), i)
		for m, j := range places[:n] {
			mustNotBeFound(t, turned(whole, i, j), i, j)
			for _, k := range places[:m] {
				mustNotBeFound(t, turned(whole, i, j, k), i, j, k)
			}
		}
	}
}

// P3.5: bits within thirty-two, at each place of a frame, in many patterns, all of them and the ends alone too.
func TestBitsWithinThirtyTwo(t *testing.T) {
	seed := uint32(7)
	for _, n := range []int{0, 2, 30} {
		whole, _ := frame.Make(mixed(n))
		for first := range 8 * len(whole) {
			patterns := []uint32{1<<32 - 1, 1<<31 | 1, 0xedb88320, 0xdebb20e3, 0x55555555}
			for range 20 {
				seed = seed*1664525 + 1013904223
				patterns = append(patterns, seed)
			}
			for _, p := range patterns {
				var places []int
				for k := range 32 {
					if p>>k&1 == 1 && first+k < 8*len(whole) {
						places = append(places, first+k)
					}
				}
				if len(places) > 0 {
					mustNotBeFound(t, turned(whole, places...), first, p)
				}
			}
		}
	}
}

// P3.5: however many of the last bytes are missing.
func TestLastBytesMissing(t *testing.T) {
	for _, n := range []int{0, 1, 4, 20, 300, 8192} {
		whole, _ := frame.Make(mixed(n))
		for length := range whole {
			if n < 1000 && length > 0 || length%97 == 1 || length > n {
				mustNotBeFound(t, whole[:length], n, length)
			}
		}
		if _, _, e := frame.Next(whole[:0]); e != api.ErrShort {
			t.Error("all bytes missing:", e)
		}
	}
}
