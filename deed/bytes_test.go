package deed_test

import (
	"math/rand"
	"strings"
	"testing"

	"rosette/api"
	"rosette/deed"
	"rosette/filter"
	"rosette/pred"
	"rosette/wire"
)

// rightDeeds tells deeds of each Kind that are their own one form, with fields at their ends.
func rightDeeds() []api.Deed {
	out := []api.Deed{}
	for _, id := range []int{1, 2, 127, 128, 300, 16383, 16384, most - 1, most} {
		for kind := 1; kind <= 6; kind++ {
			out = append(out, plain(kind, id))
		}
		for _, addr := range []string{"", "x", "\x00", "\xff\xfe", strings.Repeat("y", 31), strings.Repeat("\x80", 32)} {
			out = append(out, link(id, addr))
		}
		for _, kind := range entering {
			for _, from := range []int{1, 127, 128, most} {
				for _, f := range rightFilters() {
					out = append(out, enter(kind, id, from, f...))
				}
			}
		}
	}
	return out
}

// wrongDeeds tells deeds that are not their own one form, of each fault.
func wrongDeeds() []api.Deed {
	out := allWrong()
	for _, f := range looseFilters() {
		out = append(out, enter(api.DoAdvert, 7, 5, f.given...), enter(api.DoSub, 7, 5, f.given...))
	}
	for id, fine := range ids() {
		for kind := 1; kind <= 6 && !fine; kind++ {
			out = append(out, plain(kind, id))
		}
		if !fine {
			out = append(out, enter(api.DoAdvert, 7, id), enter(api.DoSub, 7, id, exists("a")))
		}
	}
	for kind := -1; kind <= 8; kind++ {
		out = append(out, api.Deed{Kind: kind, Id: 7, From: 5, Addr: "x"}, api.Deed{Kind: kind, Id: 7, Addr: "x", Filter: row(exists("a"))})
	}
	return append(out, api.Deed{Kind: api.DoUnlink, Id: 7, Addr: "x"}, api.Deed{Kind: api.DoUnsub, Id: 7, Filter: row(exists("a"))}, api.Deed{Kind: api.MaxInt, Id: 7}, api.Deed{Kind: 1<<8 + 2, Id: 7})
}

// bytesOf tells the bytes of d, which is its own one form, by the chapter's words.
func bytesOf(d api.Deed) string {
	b := string([]byte{byte(d.Kind)}) + string(wire.Put(nil, uint64(d.Id)))
	switch d.Kind {
	case api.DoLink:
		b += string(wire.PutText(nil, d.Addr))
	case api.DoAdvert, api.DoSub:
		b += string(wire.Put(nil, uint64(d.From))) + string(filter.Put(nil, d.Filter))
	}
	return b
}

// P10.4: bytes of deeds of each Kind, written out.
func TestPut(t *testing.T) {
	for want, d := range map[string]api.Deed{
		"\x01\x05\x01x":                              link(5, "x"),
		"\x01\x80\x80\x80\x80\x04\x00":               link(most, ""),
		"\x01\x01\x20" + strings.Repeat("z", 32):     link(1, strings.Repeat("z", 32)),
		"\x02\xac\x02":                               unlink(300),
		"\x03\x01\x02\x00":                           enter(api.DoAdvert, 1, 2),
		"\x03\x07\x80\x01\x01\x01a\x06\x01\x08":      enter(api.DoAdvert, 7, 128, ask("a", api.OpGe, num(4))),
		"\x04\x7f":                                   leave(api.DoUnadvert, 127),
		"\x05\x09\x05\x01\x01a\x08":                  enter(api.DoSub, 9, 5, exists("a")),
		"\x05\x80\x01\xff\x7f\x00":                   enter(api.DoSub, 128, 16383),
		"\x05\x01\x01\x02\x01a\x08\x01b\x01\x03\x01": enter(api.DoSub, 1, 1, exists("a"), ask("b", api.OpEq, boolean(1))),
		"\x06\x01":                                   leave(api.DoUnsub, 1),
	} {
		if got := deed.Put(nil, d); string(got) != want {
			t.Errorf("Put of %+v: %x, and not %x", d, got, want)
		}
	}
}

// P10.4: bytes that are there stay ahead; of a deed that is not its own one form they are all there is.
func TestPutBehind(t *testing.T) {
	for _, ahead := range []string{"", "x", "\x00", "\x02\x07", strings.Repeat("\xff", 300)} {
		for _, d := range rightDeeds() {
			if got := deed.Put([]byte(ahead), d); string(got) != ahead+bytesOf(d) {
				t.Errorf("Put of %+v behind %x: %x", d, ahead, got)
			}
		}
		for _, d := range wrongDeeds() {
			if got := deed.Put([]byte(ahead), d); string(got) != ahead {
				t.Errorf("Put of %+v behind %x: %x", d, ahead, got)
			}
		}
	}
	for _, d := range wrongDeeds() {
		if got := deed.Put(nil, d); len(got) != 0 {
			t.Errorf("Put of %+v behind nothing: %x", d, got)
		}
	}
	// What Norm tells of a deed with another form is laid.
	for _, f := range looseFilters() {
		one, _ := deed.Norm(enter(api.DoSub, 7, 5, f.given...))
		if got := deed.Put(nil, one); string(got) != bytesOf(enter(api.DoSub, 7, 5, f.one...)) {
			t.Errorf("Put of what Norm tells of %+v: %x", f.given, got)
		}
	}
}

// P10.4: something is laid of just those deeds of which Norm tells just them.
func TestPutOfAll(t *testing.T) {
	for _, d := range allDeeds() {
		one, err := deed.Norm(d)
		want := ""
		if err == api.OK && alike(one, d) {
			want = bytesOf(d)
		}
		if got := deed.Put([]byte("x"), d); string(got) != "x"+want {
			t.Fatalf("Put of %+v: %x, and not x and %x", d, got, want)
		}
	}
}

// P10.5: what was laid is read as it was, and what stands behind it is left.
func TestGet(t *testing.T) {
	for _, d := range rightDeeds() {
		for _, behind := range []string{"", "\x00", "\xff", "\x01a\x08", strings.Repeat("x", 100)} {
			s := wire.On(append(deed.Put(nil, d), behind...))
			if got := deed.Get(s); !alike(got, d) || s.Err() != api.OK || s.Left() != len(behind) {
				t.Errorf("Get of %+v and %x: %+v, %v, %d left", d, behind, got, s.Err(), s.Left())
			}
		}
		s := wire.On(wire.PutText(deed.Put(wire.Put(nil, 300), d), "next"))
		if n, got, next := s.Num(), deed.Get(s), s.Text(4); n != 300 || !alike(got, d) || next != "next" || s.End() != api.OK {
			t.Errorf("Get of %+v between others: %+v, %q, %v", d, got, next, s.End())
		}
	}
}

// P10.5: many deeds, one behind the other.
func TestGetOfARow(t *testing.T) {
	var b []byte
	l := rightDeeds()
	for _, d := range l {
		b = append(b, deed.Put(nil, d)...)
	}
	s := wire.On(b)
	for _, d := range l {
		if got := deed.Get(s); !alike(got, d) || s.Err() != api.OK {
			t.Fatalf("Get of %+v: %+v, %v", d, got, s.Err())
		}
	}
	if s.End() != api.OK || s.Left() != 0 {
		t.Error("the row ends with", s.End())
	}
	// Put lays on behind what it laid.
	b = nil
	for _, d := range l[:9] {
		b = deed.Put(b, d)
	}
	s = wire.On(b)
	for _, d := range l[:9] {
		if got := deed.Get(s); !alike(got, d) {
			t.Fatalf("Get of %+v: %+v, %v", d, got, s.Err())
		}
	}
	if s.End() != api.OK {
		t.Error("the row ends with", s.End())
	}
}

// mustNotGet holds that Get tells nothing of b, and this error, which stays, with nothing left.
func mustNotGet(t *testing.T, b string, want api.Errno) {
	t.Helper()
	s := wire.On([]byte(b))
	for range 2 {
		if got := deed.Get(s); !alike(got, api.Deed{}) || s.Err() != want || s.Left() != 0 || s.End() != want {
			t.Errorf("Get of %x: %+v, %v, %d left, and not %v", b, got, s.Err(), s.Left(), want)
		}
	}
}

// P10.5: bytes that end too early, at each place.
func TestGetOfTooFew(t *testing.T) {
	for _, d := range rightDeeds() {
		b := bytesOf(d)
		for k := range len(b) {
			mustNotGet(t, b[:k], api.ErrShort)
		}
	}
}

// wrongNumbers tells bytes of no number that may be there, and the error, where numbers from 1 to most may be.
func wrongNumbers(most int) map[string]api.Errno {
	nine := strings.Repeat("\xff", 9)
	return map[string]api.Errno{
		"": api.ErrShort, "\x80": api.ErrShort, nine: api.ErrShort,
		"\x80\x00": api.ErrForm, "\x81\x00": api.ErrForm, "\x80\x80\x00": api.ErrForm, nine + "\x00": api.ErrForm, nine + "\x02": api.ErrForm, nine + "\x80\x01": api.ErrForm,
		string(wire.Put(nil, uint64(most)+1)): api.ErrLimit, string(wire.Put(nil, 1<<32+1)): api.ErrLimit, string(wire.Put(nil, 1<<63)): api.ErrLimit, nine + "\x01": api.ErrLimit,
		"\x00": api.ErrForm,
	}
}

// P10.5: each of the errors of numbers, wherever there is one, whatever stands behind.
func TestGetOfWrongNumbers(t *testing.T) {
	for _, behind := range []string{"", "\x01", "\x80\x00", "\x00\x00\x00", "\x19\xff", strings.Repeat("\xff", 20)} {
		mustNotGetNumbers(t, "", behind, 6)
		for kind := 1; kind <= 6; kind++ {
			mustNotGetNumbers(t, string([]byte{byte(kind)}), behind, most)
		}
		for _, kind := range entering {
			mustNotGetNumbers(t, string([]byte{byte(kind), 7}), behind, most)
			mustNotGetNumbers(t, string([]byte{byte(kind)})+"\x80\x80\x80\x80\x04", behind, most)
		}
	}
}

// mustNotGetNumbers holds that Get tells the error of each wrong number between these.
func mustNotGetNumbers(t *testing.T, ahead, behind string, most int) {
	t.Helper()
	for b, want := range wrongNumbers(most) {
		if want != api.ErrShort {
			mustNotGet(t, ahead+b+behind, want)
		} else if behind == "" {
			mustNotGet(t, ahead+b, want)
		}
	}
}

// P10.5: the greatest numbers that may be.
func TestGetOfGreatNumbers(t *testing.T) {
	for b, want := range map[string]api.Deed{
		"\x06\x80\x80\x80\x80\x04":                         leave(api.DoUnsub, most),
		"\x01\x80\x80\x80\x80\x04\x00":                     link(most, ""),
		"\x05\x80\x80\x80\x80\x04\x80\x80\x80\x80\x04\x00": enter(api.DoSub, most, most),
		"\x03\x01\x80\x80\x80\x80\x04\x01\x01a\x08":        enter(api.DoAdvert, 1, most, exists("a")),
		"\x01\x01\x20" + strings.Repeat("\x00", 32):        link(1, strings.Repeat("\x00", 32)),
	} {
		s := wire.On([]byte(b))
		if got := deed.Get(s); !alike(got, want) || s.End() != api.OK {
			t.Errorf("Get of %x: %+v, %v", b, got, s.End())
		}
	}
}

// P10.5: errors of an Addr.
func TestGetOfWrongAddr(t *testing.T) {
	for b, want := range map[string]api.Errno{
		"": api.ErrShort, "\x80": api.ErrShort, "\x80\x00": api.ErrForm, "\x01": api.ErrShort, "\x02x": api.ErrShort, "\x20" + strings.Repeat("x", 31): api.ErrShort,
		"\x21": api.ErrLimit, "\x21" + strings.Repeat("x", 33): api.ErrLimit, "\x40" + strings.Repeat("x", 64): api.ErrLimit, "\x81\x02x": api.ErrLimit, strings.Repeat("\xff", 9) + "\x01": api.ErrLimit,
	} {
		mustNotGet(t, "\x01\x07"+b, want)
		mustNotGet(t, "\x01\x80\x80\x80\x80\x04"+b, want)
	}
}

// predBytes tells the bytes of fewer than 128 predicates, of whatever filter, by the chapter of filters.
func predBytes(f []api.Pred) string {
	b := string([]byte{byte(len(f))})
	for _, p := range f {
		b += string(pred.Put(nil, p))
	}
	return b
}

// P10.5: errors of a Filter, those of its own, and such bytes as Norm would tell otherwise.
func TestGetOfWrongFilter(t *testing.T) {
	const a = "\x01a\x08"
	for b, want := range map[string]api.Errno{
		"": api.ErrShort, "\x80": api.ErrShort, "\x80\x00": api.ErrForm, "\x01": api.ErrShort, "\x02" + a: api.ErrShort,
		"\x19": api.ErrLimit, "\x19" + strings.Repeat(a, 25): api.ErrLimit, "\x01\x11": api.ErrLimit, "\x01\x00\x08": api.ErrForm, "\x01\x01a\x00": api.ErrForm, "\x01\x01a\x09": api.ErrLimit,
		"\x01\x01a\x01\x04": api.ErrLimit, "\x01\x01a\x01\x00": api.ErrForm, "\x01\x01a\x07\x01\x00": api.ErrForm,
		// Predicates that are all right, of no filter that is: one twice, turned round, of another form, of nothing at all.
		"\x02" + a + a: api.ErrForm, "\x02\x01b\x08" + a: api.ErrForm, "\x01\x01a\x05\x01\x06": api.ErrForm, "\x01\x01a\x07\x02\x01x": api.ErrForm, "\x02" + a + "\x01a\x01\x01\x02": api.ErrForm,
		"\x02\x01a\x01\x01\x02\x01a\x01\x01\x04": api.ErrForm, "\x01\x01a\x03\x02\x00": api.ErrForm,
		// Of two faults the first one.
		"\x02" + a + "\x11": api.ErrLimit, "\x03" + a + a: api.ErrShort, "\x02\x01a\x09\x80\x00": api.ErrLimit,
	} {
		for _, kind := range entering {
			mustNotGet(t, string([]byte{byte(kind), 7, 5})+b, want)
		}
	}
	for _, kind := range entering {
		ahead := string([]byte{byte(kind), 7, 5})
		for _, f := range looseFilters() {
			mustNotGet(t, ahead+predBytes(f.given), api.ErrForm)
		}
		for _, f := range wrongFilters() {
			if f.want == api.ErrVoid && len(f.given) <= 24 {
				mustNotGet(t, ahead+predBytes(f.given), api.ErrForm)
			}
		}
		mustNotGet(t, ahead+predBytes(prefixes(13)), api.ErrForm)
		mustNotGet(t, ahead+predBytes(without(25)), api.ErrLimit)
	}
}

// P10.5: of two faults the one whose bytes stand ahead.
func TestGetOfTwoFaults(t *testing.T) {
	for b, want := range map[string]api.Errno{
		"\x07\x00": api.ErrLimit, "\x00\x80\x00": api.ErrForm, "\x07\x80\x00": api.ErrLimit, "\x80\x00\x81\x80\x80\x80\x04": api.ErrForm, "\x00": api.ErrForm,
		"\x01\x00\x21": api.ErrForm, "\x01\x81\x80\x80\x80\x04\x80\x00": api.ErrLimit, "\x01\x00": api.ErrForm, "\x02\x80\x00": api.ErrForm,
		"\x05\x00\x81\x80\x80\x80\x04": api.ErrForm, "\x05\x81\x80\x80\x80\x04\x00": api.ErrLimit, "\x05\x07\x00\x19": api.ErrForm, "\x05\x07\x81\x80\x80\x80\x04\x80\x00": api.ErrLimit, "\x03\x07\x80\x00\x19": api.ErrForm,
		"\x03\x00": api.ErrForm, "\x05\x07\x00": api.ErrForm,
	} {
		mustNotGet(t, b, want)
	}
}

// P10.5: behind an error of the scan, whichever it is, there is no deed, and the error stays.
func TestGetBehindAnError(t *testing.T) {
	for _, e := range []api.Errno{api.ErrArg, api.ErrShort, api.ErrForm, api.ErrLimit, api.ErrMore, api.ErrDead, 99, -1} {
		for _, d := range rightDeeds()[:12] {
			s := wire.On([]byte(bytesOf(d)))
			s.Fail(e)
			if got := deed.Get(s); !alike(got, api.Deed{}) || s.Err() != e || s.Left() != 0 {
				t.Errorf("Get of %+v behind %v: %+v, %v", d, e, got, s.Err())
			}
		}
	}
}

// expectedGet tells the deed whose bytes b begins with, how many they are, and the error, by the chapter's words.
func expectedGet(b []byte) (api.Deed, int, api.Errno) {
	s := wire.On(b)
	number := func(most int) int {
		n := s.Upto(most)
		if s.Err() == api.OK && n == 0 {
			s.Fail(api.ErrForm)
		}
		return n
	}
	d := api.Deed{}
	steps := []func(){func() { d.Kind = number(6) }, func() { d.Id = number(most) }}
	for k := 0; k < len(steps); k++ {
		steps[k]()
		if s.Err() != api.OK {
			return api.Deed{}, len(b), s.Err()
		}
		if k == 1 && d.Kind == api.DoLink {
			steps = append(steps, func() { d.Addr = s.Text(32) })
		}
		if k == 1 && (d.Kind == api.DoAdvert || d.Kind == api.DoSub) {
			steps = append(steps, func() { d.From = number(most) }, func() { d.Filter = filter.Get(s) })
		}
	}
	return d, len(b) - s.Left(), api.OK
}

// mustGetAsExpected holds that Get of b tells what the chapter asks, and that what was read is what is laid.
func mustGetAsExpected(t *testing.T, b []byte) api.Errno {
	t.Helper()
	want, length, wantErr := expectedGet(b)
	s := wire.On(b)
	got := deed.Get(s)
	if !alike(got, want) || s.Err() != wantErr || s.Left() != len(b)-length {
		t.Fatalf("Get of %x: %+v, %v, %d left, and not %+v, %v", b, got, s.Err(), s.Left(), want, wantErr)
	}
	if wantErr == api.OK && string(deed.Put(nil, got)) != string(b[:length]) {
		t.Fatalf("Get of %x: %+v, whose bytes are %x", b, got, deed.Put(nil, got))
	}
	one, err := deed.Norm(got)
	if wantErr == api.OK && (err != api.OK || !alike(one, got)) {
		t.Fatalf("Get of %x: %+v, of which Norm tells %+v, %v", b, got, one, err)
	}
	return wantErr
}

// P10.5: bytes that were laid, with each byte turned into each other one, and drawn ones.
func TestGetOfWhatever(t *testing.T) {
	count := map[api.Errno]int{}
	for k, d := range rightDeeds() {
		b := []byte(bytesOf(d))
		if k%13 != 0 || len(b) > 60 {
			// Long ones take long, and have no other bytes.
			continue
		}
		for place := range b {
			was := b[place]
			for x := range 256 {
				b[place] = byte(x)
				count[mustGetAsExpected(t, b)]++
			}
			b[place] = was
		}
	}
	draw := rand.New(rand.NewSource(105))
	for range 30000 {
		b := make([]byte, draw.Intn(14))
		for k := range b {
			b[k] = byte(draw.Intn(9))
			if draw.Intn(12) == 0 {
				b[k] = byte(draw.Intn(256))
			}
		}
		count[mustGetAsExpected(t, b)]++
	}
	for _, e := range []api.Errno{api.OK, api.ErrShort, api.ErrForm, api.ErrLimit} {
		if count[e] < 1000 {
			t.Error("too few bytes with", e)
		}
	}
}
