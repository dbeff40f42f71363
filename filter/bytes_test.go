package filter_test

import (
	"bytes"
	"math/rand"
	"slices"
	"strings"
	"testing"

	"rosette/api"
	"rosette/filter"
	"rosette/pred"
	"rosette/wire"
)

// rights tells right filters: few and many predicates, of one name and of several, of each kind.
func rights() [][]api.Pred {
	out := [][]api.Pred{
		{}, row(exists("a")), row(exists("\x00"), exists(strings.Repeat("n", 16))), row(ask("a", api.OpGe, 4), ask("a", api.OpLe, 5), ask("b", api.OpEq, 1)), row(ask("a", api.OpEq, boolean(1))), row(ask("a", api.OpGe, boolean(0))), row(ask("a", api.OpGt, ""), ask("a", api.OpLt, repeated(32))),
		row(ask("a", api.OpGe, api.MinInt)), row(ask("a", api.OpGe, api.MinInt+1), ask("a", api.OpLe, api.MaxInt-1), ask("a", api.OpNe, 0)), each(24, api.OpEq, 0), each(24, api.OpEq, repeated(32)), without("a", 24),
	}
	draw := rand.New(rand.NewSource(84))
	for len(out) < 400 {
		if one, e := filter.Norm(drawn(draw, 20)); e == api.OK {
			out = append(out, one)
		}
	}
	return out
}

// notRights tells filters that are not right, of each fault.
func notRights() [][]api.Pred {
	out := [][]api.Pred{
		each(25, api.OpEq, 0), without("a", 25), each(13, api.OpPrefix, "x"), row(ask("a", api.OpGt, 3)), row(ask("a", api.OpPrefix, "x")), row(exists("a"), exists("a")), row(exists("b"), exists("a")), row(ask("a", api.OpLe, 5), ask("a", api.OpGe, 4)), row(exists("a"), ask("a", api.OpEq, 1)),
	}
	for _, p := range wrongs() {
		out = append(out, row(p), row(exists("A"), p))
	}
	return append(out, voids()...)
}

// bytesOf tells the bytes of predicates, right or not, by the chapter's words; there are fewer than 128.
func bytesOf(f []api.Pred) string {
	b := string([]byte{byte(len(f))})
	for _, p := range f {
		b += string(pred.Put(nil, p))
	}
	return b
}

// P8.4: bytes of filters, written out.
func TestPut(t *testing.T) {
	for want, f := range map[string][]api.Pred{
		"\x00":                  {},
		"\x01\x01a\x08":         row(exists("a")),
		"\x01\x01a\x06\x01\x08": row(ask("a", api.OpGe, 4)),
		"\x03\x01a\x06\x01\x08\x01a\x04\x01\x0a\x02bc\x01\x02\x02xy": row(ask("a", api.OpGe, 4), ask("a", api.OpLe, 5), ask("bc", api.OpEq, "xy")),
		"\x02\x01a\x01\x03\x01\x01b\x06\x03\x00":                     row(ask("a", api.OpEq, boolean(1)), ask("b", api.OpGe, boolean(0))),
	} {
		if got := filter.Put(nil, f); string(got) != want {
			t.Errorf("Put of %#v: %x, and not %x", f, got, want)
		}
	}
	if got := filter.Put([]byte("x"), nil); string(got) != "x\x00" {
		t.Errorf("Put of nothing: %x", got)
	}
}

// P8.4: bytes that are there stay ahead; of a filter that is not right they are all there is.
func TestPutBehind(t *testing.T) {
	for _, ahead := range []string{"", "x", "\x00", "\x01\x01a\x08", strings.Repeat("\xff", 300)} {
		for _, f := range rights() {
			if got := filter.Put([]byte(ahead), f); string(got) != ahead+bytesOf(f) {
				t.Errorf("Put of %#v behind %x: %x", f, ahead, got)
			}
		}
		for _, f := range notRights() {
			if got := filter.Put([]byte(ahead), f); string(got) != ahead {
				t.Errorf("Put of %#v behind %x: %x", f, ahead, got)
			}
		}
	}
	for _, f := range notRights() {
		if got := filter.Put(nil, f); len(got) != 0 {
			t.Errorf("Put of %#v behind nothing: %x", f, got)
		}
	}
}

// P8.5: what was laid is read as it was, and what stands behind it is left.
func TestGet(t *testing.T) {
	for _, f := range rights() {
		for _, behind := range []string{"", "\x00", "\xff", "\x01a\x08", repeated(100)} {
			s := wire.On(append(filter.Put(nil, f), behind...))
			if got := filter.Get(s); !slices.Equal(got, f) || s.Err() != api.OK || s.Left() != len(behind) {
				t.Errorf("Get of %#v and %x: %#v, %v, %d left", f, behind, got, s.Err(), s.Left())
			}
		}
		s := wire.On(wire.PutText(filter.Put(wire.Put(nil, 300), f), "next"))
		if n, got, next := s.Num(), filter.Get(s), s.Text(4); n != 300 || !slices.Equal(got, f) || next != "next" || s.End() != api.OK {
			t.Errorf("Get of %#v between others: %#v, %q, %v", f, got, next, s.End())
		}
	}
}

// P8.5: many filters, one behind the other.
func TestGetOfARow(t *testing.T) {
	var b []byte
	for _, f := range rights() {
		b = filter.Put(b, f)
	}
	s := wire.On(b)
	for _, f := range rights() {
		if got := filter.Get(s); !slices.Equal(got, f) {
			t.Fatalf("Get of %#v: %#v, %v", f, got, s.Err())
		}
	}
	if s.End() != api.OK || s.Left() != 0 {
		t.Error("the row ends with", s.End())
	}
}

// mustNotGet holds that Get tells nothing of b, and this error, which stays, with nothing left.
func mustNotGet(t *testing.T, b string, want api.Errno) {
	t.Helper()
	s := wire.On([]byte(b))
	for range 2 {
		if got := filter.Get(s); len(got) != 0 || s.Err() != want || s.Left() != 0 || s.End() != want {
			t.Errorf("Get of %x: %#v, %v, %d left, and not %v", b, got, s.Err(), s.Left(), want)
		}
	}
}

// P8.5: bytes that end too early, at each place.
func TestGetOfTooFew(t *testing.T) {
	for _, f := range rights()[:60] {
		b := bytesOf(f)
		for k := range len(b) {
			mustNotGet(t, b[:k], api.ErrShort)
		}
	}
}

// P8.5: each kind of wrong bytes, and of two faults the one that the chapter names first.
func TestGetOfWrongBytes(t *testing.T) {
	const a = "\x01a\x08"
	nine := strings.Repeat("\xff", 9)
	for _, x := range []struct {
		b    string
		want api.Errno
	}{
		// The number.
		{"", api.ErrShort}, {"\x80", api.ErrShort}, {nine, api.ErrShort}, {"\x80\x00", api.ErrForm}, {"\x81\x00" + a, api.ErrForm}, {nine + "\x02", api.ErrForm},
		{"\x19", api.ErrLimit}, {"\x19" + strings.Repeat(a, 25), api.ErrLimit}, {"\x7f", api.ErrLimit}, {"\x81\x02" + a, api.ErrLimit}, {"\x80\x01", api.ErrLimit}, {nine + "\x01", api.ErrLimit},
		// The number is told ahead of whatever comes behind.
		{"\x19\x00", api.ErrLimit}, {"\x19\x11", api.ErrLimit}, {"\x80\x00\x00", api.ErrForm},
		// A predicate's own errors, of the first one, and of one behind right ones.
		{"\x01", api.ErrShort}, {"\x18", api.ErrShort}, {"\x01\x00", api.ErrForm}, {"\x01\x00\x08", api.ErrForm}, {"\x01\x11" + repeated(17) + "\x08", api.ErrLimit}, {"\x01\x01a\x09", api.ErrLimit}, {"\x01\x01a\x00", api.ErrForm}, {"\x01\x01a\x01\x04", api.ErrLimit}, {"\x01\x01a\x01\x00", api.ErrForm}, {"\x01\x01a\x07\x01\x00", api.ErrForm}, {"\x01\x01a\x01\x03\x02", api.ErrLimit}, {"\x01\x01a\x01\x02\x21" + repeated(33), api.ErrForm}, {"\x01\x01a\x01\x02\x41" + repeated(65), api.ErrLimit},
		{"\x02" + a, api.ErrShort}, {"\x02" + a + "\x01b", api.ErrShort}, {"\x02" + a + "\x00", api.ErrForm}, {"\x02" + a + "\x11", api.ErrLimit}, {"\x02" + a + "\x01b\x09", api.ErrLimit}, {"\x03" + a + "\x01b\x08", api.ErrShort}, {"\x18" + strings.Repeat(a, 23), api.ErrShort},
		// The first of two predicates' errors.
		{"\x02\x01a\x09\x00", api.ErrLimit}, {"\x02\x00\x01a\x09", api.ErrForm}, {"\x02\x00\x11", api.ErrForm}, {"\x02\x11\x00", api.ErrLimit},
		// A predicate's errors are told ahead of that it is no right filter.
		{"\x03" + a + a, api.ErrShort}, {"\x03" + a + a + "\x11", api.ErrLimit}, {"\x02\x01a\x05\x01\x06\x01b\x09", api.ErrLimit}, {"\x02\x01b\x08\x01a", api.ErrShort}, {"\x02\x01b\x08\x01a\x09", api.ErrLimit}, {"\x02\x01a\x03\x02\x00", api.ErrShort},
		// Right predicates that are no right filter.
		{"\x02" + a + a, api.ErrForm}, {"\x02\x01b\x08" + a, api.ErrForm}, {"\x01\x01a\x05\x01\x06", api.ErrForm}, {"\x01\x01a\x07\x02\x01x", api.ErrForm}, {"\x02\x01a\x04\x01\x0a\x01a\x06\x01\x08", api.ErrForm}, {"\x02" + a + "\x01a\x01\x01\x08", api.ErrForm}, {"\x18" + strings.Repeat(a, 24), api.ErrForm}, {"\x02" + a + a + "\x00", api.ErrForm}, {"\x02" + a + a + repeated(100), api.ErrForm},
		// No event meets them, or their one form has more than may be: the same error.
		{"\x01\x01a\x03\x02\x00", api.ErrForm}, {"\x02\x01a\x01\x01\x00\x01a\x01\x01\x02", api.ErrForm}, {bytesOf(each(13, api.OpPrefix, "x")), api.ErrForm}, {bytesOf(each(24, api.OpPrefix, "x")), api.ErrForm},
	} {
		mustNotGet(t, x.b, x.want)
	}
	for _, f := range voids() {
		mustNotGet(t, bytesOf(f), api.ErrForm)
	}
}

// P8.5: a scan that has failed already stays as it is, whatever there was to read.
func TestGetOfAFailedScan(t *testing.T) {
	for _, f := range rights()[:60] {
		for _, e := range []api.Errno{api.ErrArg, api.ErrShort, api.ErrForm, api.ErrLimit, api.ErrMore, api.ErrDead, 99, -1} {
			s := wire.On(filter.Put(nil, f))
			s.Fail(e)
			if got := filter.Get(s); len(got) != 0 || s.Err() != e || s.Left() != 0 {
				t.Errorf("Get of a scan with %v: %#v, %v, %d left", e, got, s.Err(), s.Left())
			}
		}
	}
}

// expectedGet tells what the chapter says that Get reads of b, how many bytes that has, and which error there is first.
func expectedGet(b []byte) ([]api.Pred, int, api.Errno) {
	s := wire.On(b)
	n := s.Num()
	if e := s.Err(); e != api.OK {
		return nil, 0, e
	}
	if n > 24 {
		return nil, 0, api.ErrLimit
	}
	f := []api.Pred{}
	for range n {
		f = append(f, pred.Get(s))
		if e := s.Err(); e != api.OK {
			return nil, 0, e
		}
	}
	if one, e := expected(f); e != api.OK || !slices.Equal(one, f) {
		return nil, 0, api.ErrForm
	}
	return f, len(b) - s.Left(), api.OK
}

// mustGetAsExpected holds Get of b against the chapter's words, and what was read against its one form; it tells the error.
func mustGetAsExpected(t *testing.T, b []byte) api.Errno {
	t.Helper()
	want, length, e := expectedGet(b)
	left := len(b) - length
	if e != api.OK {
		left = 0
	}
	s := wire.On(b)
	if got := filter.Get(s); !slices.Equal(got, want) || s.Err() != e || s.Left() != left {
		t.Fatalf("Get of %x: %#v, %v, %d left, and not %#v, %v, %d", b, got, s.Err(), s.Left(), want, e, left)
	}
	if e == api.OK && (!filter.Right(want) || !bytes.Equal(filter.Put(nil, want), b[:length])) {
		t.Fatalf("Get of %x: %#v, which is not right, or has other bytes", b, want)
	}
	return e
}

// P8.5: whatever the bytes are, they are those of a right filter that was read, or refused.
func TestGetOfAllBytes(t *testing.T) {
	letters := []byte{0, 1, 2, 3, 6, 8, 'a', 0x19, 0x80}
	rows := [][]byte{{}}
	for range 6 {
		next := [][]byte{}
		for _, b := range rows {
			mustGetAsExpected(t, b)
			for _, x := range letters {
				next = append(next, append(slices.Clone(b), x))
			}
		}
		rows = next
	}
	// Rows of predicates, right filters or not.
	draw := rand.New(rand.NewSource(85))
	told := map[api.Errno]int{}
	for range 20000 {
		told[mustGetAsExpected(t, []byte(bytesOf(drawn(draw, 4))))]++
	}
	if told[api.OK] < 100 || told[api.ErrForm] < 100 {
		t.Error("too few of one kind:", told)
	}
}

// P8.5: right bytes of which one is another one.
func TestGetOfSpoiltBytes(t *testing.T) {
	for _, f := range [][]api.Pred{row(exists("a"), exists("b")), row(ask("a", api.OpGe, 4), ask("a", api.OpLe, 500), ask("a", api.OpNe, 9), ask("b", api.OpEq, "xyz")), row(ask("a", api.OpGt, "b"), ask("a", api.OpLe, "c"), ask("b", api.OpEq, boolean(1)))} {
		b := filter.Put(nil, f)
		for place := range b {
			for x := range 256 {
				spoilt := bytes.Clone(b)
				spoilt[place] = byte(x)
				mustGetAsExpected(t, spoilt)
			}
		}
	}
}

// padded tells f with spare room, and all that room.
func padded(f []api.Pred) ([]api.Pred, []api.Pred) {
	mark := ask("mark", 77, 77)
	room := append(slices.Clone(f), mark, mark, mark)
	return room[:len(f)], room
}

// spoil overwrites a list and its spare room.
func spoil[T any](l []T, with T) {
	l = l[:cap(l)]
	for k := range l {
		l[k] = with
	}
}

// P8.6: filters and events that are handed in stay as they are, and their spare room.
func TestArgumentsStay(t *testing.T) {
	attrs := []api.Attr{attr("b", num(4)), attr("a", num(6)), attr("spare", num(1)), attr("spare", num(2))}
	keptAttrs := slices.Clone(attrs)
	all := append(rights()[:80], notRights()...)
	for k, f := range all {
		given, room := padded(f)
		kept := slices.Clone(room)
		other, otherRoom := padded(all[(k*7+3)%len(all)])
		otherKept := slices.Clone(otherRoom)
		for range 2 {
			filter.Norm(given)
			filter.Right(given)
			filter.Meets(given, attrs[:2])
			filter.Covers(given, other)
			filter.Covers(other, given)
			filter.Crosses(given, other)
			filter.Crosses(other, given)
			filter.Crosses(given, given)
			filter.Put(nil, given)
		}
		if !slices.Equal(room, kept) || !slices.Equal(otherRoom, otherKept) || !slices.Equal(attrs, keptAttrs) {
			t.Fatalf("changed: %#v", f)
		}
	}
}

// P8.6: what Norm tells is new memory, and nothing is kept.
func TestNormIsNewMemory(t *testing.T) {
	for _, f := range append(rights(), notRights()...) {
		given, room := padded(f)
		kept := slices.Clone(room)
		want, e := expected(f)
		got, _ := filter.Norm(given)
		again, _ := filter.Norm(given)
		spoil(got, api.Pred{Op: 99})
		if !slices.Equal(room, kept) || !slices.Equal(again, want) {
			t.Fatalf("shared: %#v", f)
		}
		spoil(room, api.Pred{Op: 98})
		if !slices.Equal(again, want) {
			t.Fatalf("shared: %#v", f)
		}
		mustNorm(t, f, want, e)
	}
}

// P8.6: bytes that are handed in stay as they are, and their spare room; what is answered shares neither.
func TestPutIsNewMemory(t *testing.T) {
	for _, f := range append(rights()[:80], notRights()...) {
		for _, length := range []int{0, 1, 9} {
			room := bytes.Repeat([]byte{7}, length+400)
			got, again := filter.Put(room[:length], f), filter.Put(room[:length], f)
			want := bytes.Clone(got)
			if !bytes.Equal(room, bytes.Repeat([]byte{7}, length+400)) {
				t.Fatalf("Put of %#v changed what it was handed", f)
			}
			spoil(room, 9)
			if !bytes.Equal(got, want) {
				t.Fatalf("what Put of %#v told is what it was handed", f)
			}
			spoil(got, 5)
			if !bytes.Equal(room, bytes.Repeat([]byte{9}, length+400)) || !bytes.Equal(again, want) {
				t.Fatalf("what Put of %#v told shares memory", f)
			}
		}
	}
}

// P8.6: what Get told stays, whatever becomes of the bytes it was read from, and of what it told besides.
func TestGetIsNewMemory(t *testing.T) {
	for _, f := range rights() {
		b := filter.Put(filter.Put(nil, f), f)
		s, other := wire.On(b), wire.On(b)
		one := filter.Get(s)
		spoil(b, 'z')
		two, three := filter.Get(s), filter.Get(other)
		s.Fail(api.ErrArg)
		spoil(three, api.Pred{Op: 99})
		if !slices.Equal(one, f) || !slices.Equal(two, f) {
			t.Fatalf("Get told %#v, %#v, and not %#v", one, two, f)
		}
		spoil(one, api.Pred{Op: 99})
		if !slices.Equal(two, f) || !slices.Equal(filter.Get(other), f) {
			t.Fatalf("shared: %#v", f)
		}
	}
}
