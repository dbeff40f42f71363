package wire_test

import (
	"bytes"
	"encoding/binary"
	"math/big"
	"strings"
	"testing"

	"rosette/api"
	"rosette/wire"
)

// numbers tells small numbers, those around each power of two, and the ends.
func numbers() []uint64 {
	out := []uint64{300, 624485, 123456789, 1<<64 - 2, 1<<64 - 1}
	for n := range uint64(600) {
		out = append(out, n)
	}
	for bit := range 64 {
		power := uint64(1) << bit
		out = append(out, power-1, power, power+1)
	}
	return out
}

// ints tells small ints, those around each power of two, and the ends.
func ints() []int {
	out := []int{api.MinInt, api.MinInt + 1, api.MaxInt - 1, api.MaxInt}
	for n := range 400 {
		out = append(out, n, -n)
	}
	for bit := range 63 {
		power := 1 << bit
		out = append(out, power-1, power, power+1, -power-1, -power, -power+1)
	}
	return out
}

// texts tells texts of bytes of all kinds, as long as their number's bytes get longer, and none.
func texts() []string {
	out := []string{"", "a", "ab", "\x00", "\x80", "\xff\xfe", "ä€", "a\x00b"}
	for _, length := range []int{63, 64, 127, 128, 129, 16383, 16384} {
		out = append(out, strings.Repeat("x", length-1)+"\xff")
	}
	return out
}

// rows tells bytes that a scan may be handed: all of at most two bytes, long ones around the tenth byte, and mixed ones.
func rows() [][]byte {
	out := [][]byte{nil}
	for x := range 256 {
		out = append(out, []byte{byte(x)})
		for y := range 256 {
			out = append(out, []byte{byte(x), byte(y)})
		}
	}
	for _, first := range []byte{0x80, 0x81, 0xff} {
		for length := range 13 {
			ahead := bytes.Repeat([]byte{first}, length)
			for x := range 256 {
				row := append(bytes.Clone(ahead), byte(x))
				out = append(out, row, append(bytes.Clone(row), 0), append(bytes.Clone(row), 1), append(bytes.Clone(row), 0xff))
			}
		}
	}
	seed := uint32(1)
	for n := range 20000 {
		row := make([]byte, n%15)
		for k := range row {
			seed = seed*1664525 + 1013904223
			row[k] = byte(seed >> 24)
			if seed>>16&7 != 0 {
				row[k] |= 0x80
			}
		}
		out = append(out, row)
	}
	return out
}

// expected tells what the document asks of Num of b: the number, how many bytes it has, and the error.
func expected(b []byte) (uint64, int, api.Errno) {
	const mostBytes = 10
	n := new(big.Int)
	for k, x := range b {
		n.Add(n, new(big.Int).Lsh(big.NewInt(int64(x%128)), uint(7*k)))
		if x >= 128 {
			continue
		}
		if x == 0 && k > 0 || !n.IsUint64() {
			return 0, 0, api.ErrForm
		}
		return n.Uint64(), k + 1, api.OK
	}
	if len(b) >= mostBytes {
		return 0, 0, api.ErrForm
	}
	return 0, 0, api.ErrShort
}

// mustHaveFailed holds of a scan with an error that it has nothing more to tell, whatever it is asked.
func mustHaveFailed(t *testing.T, s *wire.Scan, want api.Errno, what ...any) {
	t.Helper()
	for range 2 {
		if s.Err() != want || s.End() != want || s.Left() != 0 {
			t.Fatal(what, "told", s.Err(), s.End(), s.Left(), "and not", want)
		}
		if s.Num() != 0 || s.Int() != 0 || s.Upto(api.MaxInt) != 0 || s.Upto(-1) != 0 || s.Text(api.MaxInt) != "" || s.Text(-1) != "" {
			t.Fatal(what, "told something behind an error")
		}
		s.Fail(api.OK)
		s.Fail(api.ErrDead)
	}
}

// P2.1: the bytes of numbers: written out, and all of them by the document's words.
func TestPut(t *testing.T) {
	for n, want := range map[uint64]string{
		0: "\x00", 1: "\x01", 127: "\x7f", 128: "\x80\x01", 129: "\x81\x01", 300: "\xac\x02", 16383: "\xff\x7f", 16384: "\x80\x80\x01",
		1<<63 - 1: "\xff\xff\xff\xff\xff\xff\xff\xff\x7f",
		1 << 63:   "\x80\x80\x80\x80\x80\x80\x80\x80\x80\x01",
		1<<64 - 1: "\xff\xff\xff\xff\xff\xff\xff\xff\xff\x01",
	} {
		if b := wire.Put(nil, n); string(b) != want {
			t.Errorf("Put of %d: %x, not %x", n, b, want)
		}
	}
	for _, n := range numbers() {
		b := wire.Put([]byte("ahead"), n)
		if want := binary.AppendUvarint([]byte("ahead"), n); !bytes.Equal(b, want) {
			t.Errorf("Put of %d: %x, not %x", n, b, want)
		}
		if m, length, e := expected(b[5:]); m != n || length != len(b)-5 || e != api.OK {
			t.Errorf("Put of %d: %x are no bytes of it", n, b)
		}
	}
}

// P2.1: the bytes of ints: written out, and all of them as those of the number that the document names.
func TestPutInt(t *testing.T) {
	for n, want := range map[int]string{
		0: "\x00", -1: "\x01", 1: "\x02", -2: "\x03", 63: "\x7e", -64: "\x7f", 64: "\x80\x01", -65: "\x81\x01",
		api.MaxInt: "\xfe\xff\xff\xff\xff\xff\xff\xff\xff\x01",
		api.MinInt: "\xff\xff\xff\xff\xff\xff\xff\xff\xff\x01",
	} {
		if b := wire.PutInt(nil, n); string(b) != want {
			t.Errorf("PutInt of %d: %x, not %x", n, b, want)
		}
	}
	for _, n := range ints() {
		number := 2 * uint64(n)
		if n < 0 {
			number = 2*uint64(-1-n) + 1
		}
		b := wire.PutInt([]byte("ahead"), n)
		if want := wire.Put([]byte("ahead"), number); !bytes.Equal(b, want) || !bytes.Equal(b, binary.AppendVarint([]byte("ahead"), int64(n))) {
			t.Errorf("PutInt of %d: %x, not %x", n, b, want)
		}
	}
}

// P2.1: the bytes of texts, whatever bytes they have.
func TestPutText(t *testing.T) {
	for text, want := range map[string]string{
		"": "\x00", "ab": "\x02ab", "\x00\xff": "\x02\x00\xff", "ä": "\x02\xc3\xa4",
		strings.Repeat("x", 127): "\x7f" + strings.Repeat("x", 127),
		strings.Repeat("x", 128): "\x80\x01" + strings.Repeat("x", 128),
	} {
		if b := wire.PutText(nil, text); string(b) != want {
			t.Errorf("PutText of %q: %x", text, b)
		}
	}
	for _, text := range texts() {
		want := "ahead" + string(wire.Put(nil, uint64(len(text)))) + text
		if b := wire.PutText([]byte("ahead"), text); string(b) != want {
			t.Errorf("PutText of %q: %x", text, b)
		}
	}
}

// P2.1: nothing, nil or empty, may stand ahead; so may a lot, and what was laid is laid on.
func TestPutBehind(t *testing.T) {
	for _, ahead := range [][]byte{nil, {}, {0}, {0x80}, bytes.Repeat([]byte{0xff}, 5000)} {
		for name, b := range map[string][]byte{
			"\xac\x02": wire.Put(ahead, 300), "\x01": wire.PutInt(ahead, -1), "\x02ab": wire.PutText(ahead, "ab"),
			"\xac\x02\x01\x02ab": wire.PutText(wire.PutInt(wire.Put(ahead, 300), -1), "ab"),
		} {
			if string(b) != string(ahead)+name {
				t.Errorf("behind %d bytes: %x", len(ahead), b)
			}
		}
	}
}

// P2.2: one thing behind the other is read, and what stands behind stays.
func TestReadsOn(t *testing.T) {
	s := wire.On([]byte("\xac\x02\x01\x02ab\x05\x00\x00\x81"))
	if s.Left() != 10 || s.Err() != api.OK || s.End() != api.ErrMore {
		t.Error("On:", s.Left(), s.Err(), s.End())
	}
	if n := s.Num(); n != 300 || s.Left() != 8 {
		t.Error("Num:", n, s.Left())
	}
	if n := s.Int(); n != -1 || s.Left() != 7 {
		t.Error("Int:", n, s.Left())
	}
	if text := s.Text(2); text != "ab" || s.Left() != 4 {
		t.Error("Text:", text, s.Left())
	}
	if n := s.Upto(5); n != 5 || s.Left() != 3 {
		t.Error("Upto:", n, s.Left())
	}
	if text := s.Text(0); text != "" || s.Left() != 2 || s.Upto(0) != 0 || s.Left() != 1 || s.Err() != api.OK {
		t.Error("nothing:", text, s.Left(), s.Err())
	}
	s.Num()
	mustHaveFailed(t, s, api.ErrShort, "81")
}

// P2.2: of whatever bytes there are, Num, Int, Upto and Text tell what the document asks.
func TestReadsWhatever(t *testing.T) {
	for _, b := range rows() {
		n, length, e := expected(b)
		s, asInt := wire.On(b), wire.On(b)
		if got := s.Num(); got != n || s.Err() != e {
			t.Fatalf("Num of %x: %d %v, not %d %v", b, got, s.Err(), n, e)
		}
		folded := int(n / 2)
		if n%2 == 1 {
			folded = -1 - folded
		}
		if got := asInt.Int(); got != folded || asInt.Err() != e {
			t.Fatalf("Int of %x: %d %v, not %d %v", b, got, asInt.Err(), folded, e)
		}
		if e != api.OK {
			mustHaveFailed(t, s, e, "Num of", b)
			mustHaveFailed(t, asInt, e, "Int of", b)
		} else if s.Left() != len(b)-length || asInt.Left() != len(b)-length {
			t.Fatalf("%x: %d and %d bytes left", b, s.Left(), asInt.Left())
		}
		for _, most := range []int{api.MinInt, -1, 0, 1, 127, 128, 300, api.MaxInt} {
			mustReadUpto(t, b, most, n, length, e)
			mustReadText(t, b, most, n, length, e)
		}
	}
}

func mustReadUpto(t *testing.T, b []byte, most int, n uint64, length int, e api.Errno) {
	t.Helper()
	if e == api.OK && (most < 0 || n > uint64(most)) {
		n, e = 0, api.ErrLimit
	}
	s := wire.On(b)
	if got := s.Upto(most); got != int(n) || s.Err() != e {
		t.Fatalf("Upto(%d) of %x: %d %v, not %d %v", most, b, got, s.Err(), n, e)
	}
	if e != api.OK {
		mustHaveFailed(t, s, e, "Upto", most, b)
	} else if s.Left() != len(b)-length {
		t.Fatalf("Upto(%d) of %x: %d bytes left", most, b, s.Left())
	}
}

func mustReadText(t *testing.T, b []byte, most int, n uint64, length int, e api.Errno) {
	t.Helper()
	want := ""
	switch {
	case e != api.OK:
	case most < 0 || n > uint64(most):
		e = api.ErrLimit
	case n > uint64(len(b)-length):
		e = api.ErrShort
	default:
		want = string(b[length : length+int(n)])
	}
	s := wire.On(b)
	if got := s.Text(most); got != want || s.Err() != e {
		t.Fatalf("Text(%d) of %x: %q %v, not %q %v", most, b, got, s.Err(), want, e)
	}
	if e != api.OK {
		mustHaveFailed(t, s, e, "Text", most, b)
	} else if s.Left() != len(b)-length-len(want) {
		t.Fatalf("Text(%d) of %x: %d bytes left", most, b, s.Left())
	}
}

// P2.2: the errors that the document tells from each other, one by one.
func TestErrors(t *testing.T) {
	num := func(s *wire.Scan) { s.Num() }
	upto := func(most int) func(*wire.Scan) { return func(s *wire.Scan) { s.Upto(most) } }
	text := func(most int) func(*wire.Scan) { return func(s *wire.Scan) { s.Text(most) } }
	nine := strings.Repeat("\xff", 9)
	for _, x := range []struct {
		bytes string
		read  func(*wire.Scan)
		want  api.Errno
	}{
		{"", num, api.ErrShort},
		{"\x80", num, api.ErrShort},
		{nine, num, api.ErrShort},
		{"\x80\x00", num, api.ErrForm},
		{"\x80\x80\x00", num, api.ErrForm},
		{nine + "\x00", num, api.ErrForm},
		{nine + "\x01", num, api.OK},
		{nine + "\x02", num, api.ErrForm},
		{nine + "\x7f", num, api.ErrForm},
		{nine + "\x80", num, api.ErrForm},
		{nine + "\x81", num, api.ErrForm},
		{nine + "\x81\x00", num, api.ErrForm},
		{nine + "\x81\x01", num, api.ErrForm},
		{"\x05", upto(5), api.OK},
		{"\x06", upto(5), api.ErrLimit},
		{"\x00", upto(0), api.OK},
		{"\x00", upto(-1), api.ErrLimit},
		{"\x00", upto(api.MinInt), api.ErrLimit},
		{"", upto(-1), api.ErrShort},
		{"\x80", upto(-1), api.ErrShort},
		{"\x80\x00", upto(-1), api.ErrForm},
		{nine, upto(0), api.ErrShort},
		{nine[:8] + "\x7f", upto(api.MaxInt), api.OK},
		{nine[:8] + "\x7f", upto(api.MaxInt - 1), api.ErrLimit},
		{strings.Repeat("\x80", 9) + "\x01", upto(api.MaxInt), api.ErrLimit},
		{nine + "\x01", upto(api.MaxInt), api.ErrLimit},
		{"\x02ab", text(2), api.OK},
		{"\x03abc", text(2), api.ErrLimit},
		{"\x03ab", text(2), api.ErrLimit},
		{"\x03ab", text(3), api.ErrShort},
		{"\x01", text(3), api.ErrShort},
		{"\x00", text(0), api.OK},
		{"\x00", text(-1), api.ErrLimit},
		{"", text(-1), api.ErrShort},
		{"\x80\x00", text(-1), api.ErrForm},
		{nine[:8] + "\x7f", text(api.MaxInt), api.ErrShort},
		{nine + "\x01", text(api.MaxInt), api.ErrLimit},
	} {
		s := wire.On([]byte(x.bytes))
		x.read(s)
		if s.Err() != x.want {
			t.Errorf("%x: %v, not %v", x.bytes, s.Err(), x.want)
		} else if x.want != api.OK {
			mustHaveFailed(t, s, x.want, []byte(x.bytes))
		}
	}
}

// P2.2: an error takes all bytes away, those that could be read too.
func TestNothingLeftBehindAnError(t *testing.T) {
	for name, read := range map[string]func(*wire.Scan){
		"Upto": func(s *wire.Scan) { s.Upto(1) }, "Text": func(s *wire.Scan) { s.Text(1) }, "Fail": func(s *wire.Scan) { s.Fail(api.ErrLimit) },
	} {
		s := wire.On([]byte("\x02\x02\x01\x01"))
		read(s)
		mustHaveFailed(t, s, api.ErrLimit, name)
	}
	s := wire.On([]byte("\x80\x00\x01"))
	s.Int()
	mustHaveFailed(t, s, api.ErrForm, "Int")
	s = wire.On([]byte("\x09\x01\x01"))
	s.Text(9)
	mustHaveFailed(t, s, api.ErrShort, "Text of too few")
}

// P2.3: how many bytes are left, from all to none.
func TestLeft(t *testing.T) {
	for _, none := range [][]byte{nil, {}} {
		if s := wire.On(none); s.Left() != 0 || s.Err() != api.OK || s.End() != api.OK {
			t.Error("On of nothing:", s.Left(), s.Err(), s.End())
		}
	}
	s := wire.On(make([]byte, 300))
	for n := range 300 {
		if s.Left() != 300-n || s.End() != api.ErrMore || s.Err() != api.OK {
			t.Fatal(n, "read:", s.Left(), s.End(), s.Err())
		}
		s.Num()
	}
	if s.Left() != 0 || s.End() != api.OK || s.Err() != api.OK {
		t.Error("all read:", s.Left(), s.End(), s.Err())
	}
}

// P2.3: the first error that is none of OK stays, whichever it is; of OK nothing happens.
func TestFail(t *testing.T) {
	for _, e := range []api.Errno{api.ErrArg, api.ErrShort, api.ErrMore, api.ErrDead, 99, -1, api.MaxInt, api.MinInt} {
		for _, b := range []string{"", "\x07", "\x07\x08"} {
			s := wire.On([]byte(b))
			s.Fail(api.OK)
			if s.Left() != len(b) || s.Err() != api.OK {
				t.Error("Fail of OK:", s.Left(), s.Err())
			}
			s.Fail(e)
			mustHaveFailed(t, s, e, "Fail")
		}
	}
	s := wire.On([]byte("\x07\x08"))
	s.Fail(api.OK)
	if s.Num() != 7 || s.Upto(8) != 8 || s.End() != api.OK {
		t.Error("reading on behind Fail of OK")
	}
	s.Fail(api.ErrUsed)
	mustHaveFailed(t, s, api.ErrUsed, "Fail at the end")
}

// P2.3: End tells of bytes that are left, and they may be read all the same.
func TestEnd(t *testing.T) {
	s := wire.On([]byte("\x07\x01a"))
	if s.Num() != 7 || s.End() != api.ErrMore || s.End() != api.ErrMore || s.Err() != api.OK || s.Left() != 2 {
		t.Error("End ahead of the end:", s.End(), s.Err(), s.Left())
	}
	if s.Text(1) != "a" || s.End() != api.OK || s.Err() != api.OK {
		t.Error("End at the end:", s.End(), s.Err())
	}
	s.Num()
	mustHaveFailed(t, s, api.ErrShort, "Num at the end")
}

// P2.4: what is handed in is not changed, nor its spare room.
func TestHandedInStays(t *testing.T) {
	for _, length := range []int{0, 1, 9} {
		whole := bytes.Repeat([]byte{0x01}, length+64)
		before := bytes.Clone(whole)
		ahead := whole[:length]
		wire.Put(ahead, 1<<64-1)
		wire.PutInt(ahead, api.MinInt)
		wire.PutText(ahead, "abcdef")
		s := wire.On(ahead)
		s.Num()
		s.Int()
		s.Upto(1)
		s.Text(1)
		s.Fail(api.ErrArg)
		s.End()
		if !bytes.Equal(whole, before) {
			t.Errorf("%d bytes: %x became %x", length, before, whole)
		}
	}
}

// P2.4: a scan goes on with what it was handed, whatever its owner does to that, and so does another scan of the same.
func TestScanKeepsNothingOfOthers(t *testing.T) {
	b := []byte("\xac\x02\x02ab\x07")
	s, other := wire.On(b), wire.On(b)
	if s.Num() != 300 {
		t.Error("Num")
	}
	clear(b)
	text := s.Text(2)
	if text != "ab" || s.Upto(7) != 7 || s.End() != api.OK {
		t.Error("the scan was changed from outside")
	}
	if other.Left() != 6 || other.Num() != 300 || other.Text(2) != "ab" || other.Num() != 7 || other.End() != api.OK {
		t.Error("one scan was changed by another")
	}
	s.Fail(api.ErrArg)
	if text != "ab" || other.Err() != api.OK {
		t.Error("what was told was changed")
	}
}

// P2.4: what is answered is shared with nobody, spare room too.
func TestAnswersAreNew(t *testing.T) {
	for _, length := range []int{0, 1, 9} {
		for name, call := range map[string]func(b []byte) []byte{
			"Put":     func(b []byte) []byte { return wire.Put(b, 300) },
			"PutInt":  func(b []byte) []byte { return wire.PutInt(b, -300) },
			"PutText": func(b []byte) []byte { return wire.PutText(b, "ab") },
			"nothing": func(b []byte) []byte { return wire.PutText(b, "") },
		} {
			whole := bytes.Repeat([]byte{0x5a}, length+64)
			before := bytes.Clone(whole)
			first, second := call(whole[:length]), call(whole[:length])
			kept := bytes.Clone(second)
			clear(first[:cap(first)])
			if !bytes.Equal(whole, before) || !bytes.Equal(second, kept) {
				t.Error(name, "shares what it answers, behind", length)
			}
			clear(whole)
			if !bytes.Equal(second, kept) {
				t.Error(name, "keeps what it was handed, behind", length)
			}
		}
	}
}

// P2.5: what was laid is read as it was, one by one and one behind the other.
func TestRound(t *testing.T) {
	var all []byte
	for _, n := range numbers() {
		b := wire.Put(nil, n)
		if s := wire.On(b); s.Num() != n || s.End() != api.OK {
			t.Errorf("Num of Put of %d: %v", n, s.End())
		}
		all = append(all, b...)
	}
	for _, n := range ints() {
		b := wire.PutInt(nil, n)
		if s := wire.On(b); s.Int() != n || s.End() != api.OK {
			t.Errorf("Int of PutInt of %d: %v", n, s.End())
		}
		if s := wire.On(wire.Put(nil, uint64(n))); n >= 0 && (s.Upto(n) != n || s.End() != api.OK) {
			t.Errorf("Upto of Put of %d: %v", n, s.End())
		}
		all = append(all, b...)
	}
	for _, text := range texts() {
		b := wire.PutText(nil, text)
		if s := wire.On(b); s.Text(len(text)) != text || s.End() != api.OK {
			t.Errorf("Text of PutText of %q: %v", text, s.End())
		}
		all = append(all, b...)
	}
	s := wire.On(all)
	for _, n := range numbers() {
		if got := s.Num(); got != n {
			t.Fatalf("Num: %d, not %d", got, n)
		}
	}
	for _, n := range ints() {
		if got := s.Int(); got != n {
			t.Fatalf("Int: %d, not %d", got, n)
		}
	}
	for _, text := range texts() {
		if got := s.Text(api.MaxInt); got != text {
			t.Fatalf("Text: %q, not %q", got, text)
		}
	}
	if s.End() != api.OK {
		t.Error("all read:", s.End())
	}
}

// P2.5: whatever is read is laid again as the very bytes that were read.
func TestOneForm(t *testing.T) {
	for _, b := range rows() {
		asNum, asInt, asText := wire.On(b), wire.On(b), wire.On(b)
		mustBeLaidSo(t, asNum, b, wire.Put(nil, asNum.Num()))
		mustBeLaidSo(t, asInt, b, wire.PutInt(nil, asInt.Int()))
		mustBeLaidSo(t, asText, b, wire.PutText(nil, asText.Text(api.MaxInt)))
	}
}

// mustBeLaidSo holds of a scan of b that what it read, if anything, is what was laid.
func mustBeLaidSo(t *testing.T, s *wire.Scan, b, laid []byte) {
	t.Helper()
	if read := b[:len(b)-s.Left()]; s.Err() == api.OK && !bytes.Equal(laid, read) {
		t.Fatalf("%x were read, %x were laid", read, laid)
	}
}

// P2.5: of bytes that were laid no fewer are read.
func TestCutOff(t *testing.T) {
	for _, n := range numbers() {
		b := wire.Put(nil, n)
		for length := range b {
			s := wire.On(b[:length])
			s.Num()
			mustHaveFailed(t, s, api.ErrShort, "Num of", n, "cut off at", length)
		}
	}
	for _, text := range texts() {
		b := wire.PutText(nil, text)
		for _, length := range []int{0, 1, 2, len(b) / 2, len(b) - 1} {
			if length < len(b) {
				s := wire.On(b[:length])
				s.Text(api.MaxInt)
				mustHaveFailed(t, s, api.ErrShort, "Text of", len(text), "cut off at", length)
			}
		}
	}
}
