package value_test

import (
	"bytes"
	"slices"
	"strings"
	"testing"

	"rosette/api"
	"rosette/value"
	"rosette/wire"
)

func num(n int) api.Value { return api.Value{Kind: api.KindInt, Int: n} }

func text(s string) api.Value { return api.Value{Kind: api.KindText, Text: s} }

func boolean(n int) api.Value { return api.Value{Kind: api.KindBool, Int: n} }

// rights tells right values of each Kind, each once, and in the document's order.
func rights() []api.Value {
	long := strings.Repeat("x", api.MaxText-1)
	out := []api.Value{}
	for _, n := range []int{api.MinInt, api.MinInt + 1, -1 << 62, -1 << 32, -65, -64, -2, -1, 0, 1, 2, 63, 64, 8191, 8192, 1 << 31, 1 << 62, api.MaxInt - 1, api.MaxInt} {
		out = append(out, num(n))
	}
	for _, s := range []string{"", "\x00", "\x00\x00", "\x01", "A", "a", "a\x00", "a\x00b", "aa", "ab", "a\xff", "b", long, long + "a", long + "\xff", "\x7f", "\x80", "ä", "ä€", "\xff", "\xff\x00", "\xff\xff"} {
		out = append(out, text(s))
	}
	return append(out, boolean(0), boolean(1))
}

// wrongs tells values that are not right, of each fault alone, and of some at once.
func wrongs() []api.Value {
	out := []api.Value{
		{Kind: api.KindInt, Text: "a"}, {Kind: api.KindInt, Text: "\x00"}, {Kind: api.KindInt, Int: 5, Text: "ab"},
		{Kind: api.KindText, Int: 1}, {Kind: api.KindText, Int: -1}, {Kind: api.KindText, Int: api.MinInt, Text: "a"}, {Kind: api.KindText, Int: 2, Text: "a"},
		text(strings.Repeat("x", api.MaxText+1)), text(strings.Repeat("\x00", 128)), text(strings.Repeat("x", 256+api.MaxText)), text(strings.Repeat("x", 1<<16)),
		{Kind: api.KindText, Int: 1, Text: strings.Repeat("x", api.MaxText+1)},
		{Kind: api.KindBool, Text: "a"}, {Kind: api.KindBool, Int: 1, Text: "\x00"}, {Kind: api.KindBool, Int: 2, Text: "a"},
	}
	for _, n := range []int{2, 3, -1, -2, 256, 257, 1 << 32, api.MinInt, api.MaxInt} {
		out = append(out, boolean(n))
	}
	for _, kind := range []int{0, -1, -2, -3, 4, 5, 255, 256, 257, 258, 259, 1<<32 + 1, api.MinInt, api.MinInt + 1, api.MaxInt} {
		out = append(out, api.Value{Kind: kind}, api.Value{Kind: kind, Int: 1}, api.Value{Kind: kind, Text: "a"}, api.Value{Kind: kind, Int: 1, Text: "a"})
	}
	return out
}

// bytesOf tells the bytes of a right value by the document's words.
func bytesOf(v api.Value) []byte {
	switch v.Kind {
	case 1:
		return wire.PutInt([]byte{1}, v.Int)
	case 2:
		return wire.PutText([]byte{2}, v.Text)
	}
	return []byte{3, byte(v.Int)}
}

// P4.1: values that are right: of each Kind, with the least and the greatest of what they hold.
func TestRight(t *testing.T) {
	for _, v := range rights() {
		if !value.Right(v) {
			t.Error(v, "is not right")
		}
	}
	for n := range api.MaxText + 1 {
		if !value.Right(text(strings.Repeat("\xff", n))) {
			t.Error("a text of", n, "bytes is not right")
		}
	}
}

// P4.1: values that are not.
func TestNotRight(t *testing.T) {
	for _, v := range wrongs() {
		if value.Right(v) {
			t.Error(v, "is right")
		}
	}
	for n := api.MaxText + 1; n < 600; n++ {
		if value.Right(text(strings.Repeat("x", n))) {
			t.Error("a text of", n, "bytes is right")
		}
	}
}

// P4.2: pairs of which the first stands ahead of the second, and what decides it.
func TestCompare(t *testing.T) {
	long := strings.Repeat("x", 1000)
	for why, pair := range map[string][2]api.Value{
		"the Kind, whatever the Int":         {num(9), boolean(0)},
		"the Kind, whatever the Text":        {{Kind: 2, Text: "z"}, {Kind: 3, Text: "a"}},
		"the Kind, whatever both are":        {{Kind: 1, Int: 7, Text: "z"}, {Kind: 2, Int: 6, Text: "a"}},
		"a Kind of 0":                        {{}, {Kind: 1}},
		"a Kind below 0":                     {{Kind: -1, Int: 5}, {}},
		"the ends of Kinds":                  {{Kind: api.MinInt}, {Kind: api.MaxInt}},
		"Kinds above 3":                      {{Kind: 4, Int: 1}, {Kind: 5}},
		"the Int":                            {num(-5), num(3)},
		"the ends of Ints":                   {num(api.MinInt), num(api.MaxInt)},
		"Ints whose difference wraps":        {num(api.MinInt), num(1)},
		"Ints that differ above 32 bits":     {num(1), num(1 << 40)},
		"the Int, whatever the Text":         {{Kind: 1, Int: 1, Text: "b"}, {Kind: 1, Int: 2, Text: "a"}},
		"the Int of texts":                   {{Kind: 2, Int: 1, Text: "b"}, {Kind: 2, Int: 2, Text: "a"}},
		"the Int of bools":                   {boolean(0), boolean(1)},
		"the Text":                           {text("a"), text("b")},
		"the Text of ints":                   {{Kind: 1, Int: 1, Text: "a"}, {Kind: 1, Int: 1, Text: "b"}},
		"the Text of no known Kind":          {{Kind: 9, Text: "a"}, {Kind: 9, Text: "aa"}},
		"a Text that begins the other":       {text("a"), text("a\x00")},
		"the empty Text":                     {text(""), text("\x00")},
		"the first bytes, not the length":    {text("ab"), text("b")},
		"bytes above 127":                    {text("a\x7f"), text("a\x80")},
		"bytes above 127 and a letter":       {text("z"), text("\x80")},
		"no form of runes":                   {text("\xc3\xa4"), text("\xff")},
		"capitals as the lesser bytes":       {text("B"), text("a")},
		"Texts longer than those of a right": {text(long), text(long + "\x00")},
		"the last byte of long Texts":        {text(long + "a"), text(long + "b")},
	} {
		a, b := pair[0], pair[1]
		if value.Compare(a, b) != -1 || value.Compare(b, a) != 1 || value.Compare(a, a) != 0 || value.Compare(b, b) != 0 {
			t.Error(why, "does not decide:", a, b, value.Compare(a, b), value.Compare(b, a))
		}
	}
}

// P4.6: all values stand in one order, right or not: 0 of the same ones alone, the other way round if turned, and by three.
func TestCompareIsOneOrder(t *testing.T) {
	for k, a := range rights() {
		for n, b := range rights() {
			if want := min(1, max(-1, k-n)); value.Compare(a, b) != want {
				t.Error(a, b, "compare as", value.Compare(a, b), "and not as", want)
			}
		}
	}
	all := slices.Concat(rights(), wrongs())
	slices.SortFunc(all, value.Compare)
	all = slices.Compact(all)
	for k, a := range all {
		for n, b := range all {
			if want := min(1, max(-1, k-n)); value.Compare(a, b) != want {
				t.Fatal(a, b, "compare as", value.Compare(a, b), "and not as", want)
			}
		}
	}
}

// P4.3: bytes of each Kind, written out.
func TestPut(t *testing.T) {
	for want, v := range map[string]api.Value{
		"\x01\x00": num(0), "\x01\x01": num(-1), "\x01\x02": num(1), "\x01\x05": num(-3), "\x01\x80\x01": num(64),
		"\x01\xff\xff\xff\xff\xff\xff\xff\xff\xff\x01": num(api.MinInt),
		"\x01\xfe\xff\xff\xff\xff\xff\xff\xff\xff\x01": num(api.MaxInt),
		"\x02\x00":                              text(""),
		"\x02\x02ab":                            text("ab"),
		"\x02\x01\xff":                          text("\xff"),
		"\x02\x40" + strings.Repeat("\x00", 64): text(strings.Repeat("\x00", 64)),
		"\x03\x00":                              boolean(0),
		"\x03\x01":                              boolean(1),
	} {
		if got := value.Put(nil, v); string(got) != want {
			t.Errorf("Put of %v: %x", v, got)
		}
	}
}

// P4.3: bytes that are there stay ahead; of a value that is not right they are all there is.
func TestPutBehind(t *testing.T) {
	for _, ahead := range []string{"", "x", "\x02\x05", strings.Repeat("\xff", 300)} {
		for _, v := range rights() {
			if got := value.Put([]byte(ahead), v); string(got) != ahead+string(bytesOf(v)) {
				t.Errorf("Put of %v behind %x: %x", v, ahead, got)
			}
		}
		for _, v := range wrongs() {
			if got := value.Put([]byte(ahead), v); string(got) != ahead {
				t.Errorf("Put of %v behind %x: %x", v, ahead, got)
			}
		}
	}
}

// P4.4, P4.6: what was laid is read as it was, and what stands behind it is left.
func TestGet(t *testing.T) {
	for _, v := range rights() {
		for _, behind := range []string{"", "\x00", "\xff", "\x01\x02", strings.Repeat("a", 100)} {
			s := wire.On(append(value.Put(nil, v), behind...))
			if got := value.Get(s); got != v || s.Err() != api.OK || s.Left() != len(behind) {
				t.Errorf("Get of %v and %x: %v, %v, %d left", v, behind, got, s.Err(), s.Left())
			}
			if rest := wire.PutText(nil, behind); behind != "" {
				s = wire.On(append(value.Put(nil, v), rest...))
				if value.Get(s); s.Text(len(behind)) != behind || s.End() != api.OK {
					t.Errorf("behind %v there is not %x", v, behind)
				}
			}
		}
	}
}

// P4.4, P4.6: many values, one behind the other.
func TestGetOfARow(t *testing.T) {
	var b []byte
	for _, v := range rights() {
		b = value.Put(b, v)
	}
	s := wire.On(b)
	for _, v := range rights() {
		if got := value.Get(s); got != v {
			t.Fatal("Get of", v, "told", got)
		}
	}
	if s.End() != api.OK {
		t.Error("the row ends with", s.End())
	}
}

// mustRefuse holds that Get tells nothing of b, and this error, which stays, with nothing left.
func mustRefuse(t *testing.T, b string, want api.Errno) {
	t.Helper()
	s := wire.On([]byte(b))
	if got := value.Get(s); got != (api.Value{}) || s.Err() != want || s.Left() != 0 {
		t.Errorf("Get of %x: %v, %v, %d left, and not %v", b, got, s.Err(), s.Left(), want)
	}
	if got := value.Get(s); got != (api.Value{}) || s.Err() != want || s.Left() != 0 {
		t.Errorf("Get of %x once more: %v, %v, %d left, and not %v", b, got, s.Err(), s.Left(), want)
	}
}

// P4.4: bytes that end too early, at each place.
func TestGetOfTooFew(t *testing.T) {
	for _, v := range rights() {
		b := string(bytesOf(v))
		for k := range b {
			mustRefuse(t, b[:k], api.ErrShort)
		}
	}
}

// P4.4: each kind of wrong bytes, and of two faults the one that is read first.
func TestGetOfWrongBytes(t *testing.T) {
	nine := strings.Repeat("\xff", 9)
	for b, want := range map[string]api.Errno{
		"":                                   api.ErrShort,
		"\x00":                               api.ErrForm,
		"\x00\x00":                           api.ErrForm,
		"\x00\x01\x02":                       api.ErrForm,
		"\x04":                               api.ErrLimit,
		"\x04\x02":                           api.ErrLimit,
		"\x7f\x00":                           api.ErrLimit,
		"\x81\x00\x02":                       api.ErrForm,
		"\x80\x00":                           api.ErrForm,
		"\x84\x00":                           api.ErrForm,
		"\x80":                               api.ErrShort,
		"\x81":                               api.ErrShort,
		"\xff\xff":                           api.ErrShort,
		"\x81\x01\x02":                       api.ErrLimit,
		"\x81\x02\x02":                       api.ErrLimit,
		nine + "\x01":                        api.ErrLimit,
		nine + "\x02":                        api.ErrForm,
		"\x01":                               api.ErrShort,
		"\x01\x80":                           api.ErrShort,
		"\x01\x80\x00":                       api.ErrForm,
		"\x01\x82\x00\x07":                   api.ErrForm,
		"\x01" + nine:                        api.ErrShort,
		"\x01" + nine + "\x02":               api.ErrForm,
		"\x01" + nine + "\xff":               api.ErrForm,
		"\x02":                               api.ErrShort,
		"\x02\x80":                           api.ErrShort,
		"\x02\x80\x00":                       api.ErrForm,
		"\x02\x82\x00ab":                     api.ErrForm,
		"\x02\x02a":                          api.ErrShort,
		"\x02\x40" + strings.Repeat("x", 63): api.ErrShort,
		"\x02\x41":                           api.ErrLimit,
		"\x02\x41" + strings.Repeat("x", 65): api.ErrLimit,
		"\x02\x80\x01" + strings.Repeat("x", 128): api.ErrLimit,
		"\x02" + nine + "\x01":                    api.ErrLimit,
		"\x03":                                    api.ErrShort,
		"\x03\x80":                                api.ErrShort,
		"\x03\x80\x00":                            api.ErrForm,
		"\x03\x81\x00":                            api.ErrForm,
		"\x03\x02":                                api.ErrLimit,
		"\x03\x03\x00":                            api.ErrLimit,
		"\x03\x7f":                                api.ErrLimit,
		"\x03\x80\x01":                            api.ErrLimit,
		"\x03\x81\x01":                            api.ErrLimit,
	} {
		mustRefuse(t, b, want)
	}
}

// P4.4: a scan that has failed tells nothing more, and keeps its error, whatever there was to read.
func TestGetOfAFailedScan(t *testing.T) {
	for _, v := range rights() {
		for e := api.ErrArg; e <= api.ErrDead; e++ {
			s := wire.On(value.Put(nil, v))
			s.Fail(e)
			if got := value.Get(s); got != (api.Value{}) || s.Err() != e || s.Left() != 0 {
				t.Errorf("Get of a scan with %v: %v, %v, %d left", e, got, s.Err(), s.Left())
			}
		}
	}
	s := wire.On([]byte("\x80\x00\x03\x01"))
	s.Num()
	if got := value.Get(s); got != (api.Value{}) || s.Err() != api.ErrForm {
		t.Error("Get behind a wrong number:", got, s.Err())
	}
}

// P4.4, P4.6: whatever the bytes are, they are those of a right value that was read, or refused with an error of wire's.
func TestGetOfAllBytes(t *testing.T) {
	for first := range 256 {
		for second := range 256 {
			for _, behind := range []string{"", "\x00", "\x01", "\x7f", "\x80", "\x80\x00", "\x80\x01", "ab", strings.Repeat("\xff", 70)} {
				mustReadOrRefuse(t, append([]byte{byte(first), byte(second)}, behind...))
			}
		}
	}
}

// mustReadOrRefuse holds of Get of b that what it told has just the bytes that it read.
func mustReadOrRefuse(t *testing.T, b []byte) {
	t.Helper()
	s := wire.On(b)
	got := value.Get(s)
	if e := s.Err(); e != api.OK {
		if got != (api.Value{}) || s.Left() != 0 || e != api.ErrShort && e != api.ErrForm && e != api.ErrLimit {
			t.Fatalf("Get of %x: %v, %v, %d left", b, got, e, s.Left())
		}
		return
	}
	if !value.Right(got) || !bytes.Equal(value.Put(nil, got), b[:len(b)-s.Left()]) {
		t.Fatalf("Get of %x: %v, %d left", b, got, s.Left())
	}
}

// P4.5: bytes that are handed in stay as they are, and their spare room; what is answered shares neither.
func TestPutIsNewMemory(t *testing.T) {
	for _, v := range slices.Concat(rights(), wrongs()) {
		room := bytes.Repeat([]byte{7}, 200)
		b := room[:3]
		got := value.Put(b, v)
		want := bytes.Clone(got)
		if !bytes.Equal(room, bytes.Repeat([]byte{7}, 200)) {
			t.Error("Put of", v, "changed what it was handed")
		}
		for k := range room {
			room[k] = 9
		}
		if !bytes.Equal(got, want) {
			t.Error("what Put of", v, "told is what it was handed")
		}
		whole := got[:cap(got)]
		for k := range whole {
			whole[k] = 5
		}
		if !bytes.Equal(room, bytes.Repeat([]byte{9}, 200)) {
			t.Error("the room of what Put of", v, "told is what it was handed")
		}
	}
	for _, none := range [][]byte{nil, {}} {
		if got := value.Put(none, api.Value{}); len(got) != 0 {
			t.Errorf("Put of no value behind nothing: %x", got)
		}
	}
}

// P4.5: what Get told stays, whatever becomes of the bytes it was read from.
func TestGetIsNewMemory(t *testing.T) {
	b := value.Put(value.Put(nil, text("abc")), text("de"))
	s := wire.On(b)
	first := value.Get(s)
	for k := range b {
		b[k] = 'z'
	}
	if second := value.Get(s); first != text("abc") || second != text("de") {
		t.Error("Get told", first, second)
	}
}
