package pred_test

import (
	"bytes"
	"slices"
	"strings"
	"testing"

	"rosette/api"
	"rosette/event"
	"rosette/pred"
	"rosette/value"
	"rosette/wire"
)

func num(n int) api.Value { return api.Value{Kind: api.KindInt, Int: n} }

func text(s string) api.Value { return api.Value{Kind: api.KindText, Text: s} }

func boolean(n int) api.Value { return api.Value{Kind: api.KindBool, Int: n} }

// ask tells a predicate of the attribute a.
func ask(op int, v api.Value) api.Pred { return api.Pred{Name: "a", Op: op, Value: v} }

// exists tells the predicate that asks for no more than an attribute of that name.
func exists(name string) api.Pred { return api.Pred{Name: name, Op: api.OpExists} }

func attr(name string, v api.Value) api.Attr { return api.Attr{Name: name, Value: v} }

func repeated(n int) string { return strings.Repeat("x", n) }

// orderOps tells the operators that go by the order of values.
func orderOps() []int {
	return []int{api.OpEq, api.OpNe, api.OpLt, api.OpLe, api.OpGt, api.OpGe}
}

// strangeOps tells numbers that are no operators, among them such as have an operator's lowest bits.
func strangeOps() []int {
	out := []int{0, 9, 10, 15, 16, 127, 128, -1, -2, -7, -8, api.MinInt, api.MaxInt}
	for op := api.OpEq; op <= api.OpExists; op++ {
		out = append(out, op+256, op+1<<32, op+api.MinInt, -op)
	}
	return out
}

// sides tells right values against which an attribute may be held: of each Kind, at the ends of each, rising.
func sides() []api.Value {
	out := []api.Value{}
	for _, n := range []int{api.MinInt, api.MinInt + 1, -1 << 62, -64, -1, 0, 1, 5, 63, 64, 1 << 31, 1 << 62, api.MaxInt - 1, api.MaxInt} {
		out = append(out, num(n))
	}
	for _, s := range []string{"", "\x00", "\x01", "A", "a", "a\x00", "aa", "ab", "a\x7f", "a\x80", "a\xff", "b", repeated(31), repeated(31) + "a", repeated(32), "\x7f", "\x80", "\xc3\xa4", "\xff", "\xff\xff"} {
		out = append(out, text(s))
	}
	return append(out, boolean(0), boolean(1))
}

// longTexts tells right values of more bytes than an attribute may be held against.
func longTexts() []api.Value {
	return []api.Value{text(repeated(33)), text(strings.Repeat("\x00", 33)), text(repeated(32) + "\xff"), text(strings.Repeat("\xff", 63)), text(repeated(64))}
}

// wrongValues tells values that are not right, of each fault.
func wrongValues() []api.Value {
	return []api.Value{
		{}, {Int: 1}, {Text: "a"}, {Kind: 4}, {Kind: -1}, {Kind: 257}, {Kind: api.MinInt}, {Kind: api.MaxInt},
		{Kind: api.KindInt, Text: "a"}, {Kind: api.KindInt, Int: 5, Text: "ab"},
		{Kind: api.KindText, Int: 1}, {Kind: api.KindText, Int: -1, Text: "a"}, text(repeated(65)), text(repeated(320)),
		{Kind: api.KindBool, Text: "a"}, boolean(2), boolean(-1), boolean(256), boolean(api.MinInt),
	}
}

// rights tells right predicates: each Op against all that it may be held against, and names of both ends.
func rights() []api.Pred {
	out := []api.Pred{}
	for _, name := range []string{"a", "\x00", "\xff\xfe", "abcdefghijklmnop"} {
		out = append(out, exists(name))
		for _, v := range sides() {
			for _, op := range orderOps() {
				out = append(out, api.Pred{Name: name, Op: op, Value: v})
			}
			if v.Kind == api.KindText {
				out = append(out, api.Pred{Name: name, Op: api.OpPrefix, Value: v})
			}
		}
	}
	return out
}

// wrongs tells predicates that are not right, of each fault alone, and of some at once.
func wrongs() []api.Pred {
	out := []api.Pred{{}, {Name: "a"}, {Op: api.OpExists}, {Name: repeated(17), Op: 9, Value: num(1)}}
	for _, name := range []string{"", repeated(17), strings.Repeat("\x00", 256), repeated(257), repeated(1 << 16)} {
		out = append(out, exists(name), api.Pred{Name: name, Op: api.OpEq, Value: num(5)}, api.Pred{Name: name, Op: api.OpPrefix, Value: text("a")})
	}
	for _, op := range strangeOps() {
		out = append(out, ask(op, num(5)), ask(op, text("a")), ask(op, boolean(1)), ask(op, api.Value{}))
	}
	for _, v := range slices.Concat(wrongValues(), longTexts()) {
		for op := api.OpEq; op <= api.OpPrefix; op++ {
			out = append(out, ask(op, v))
		}
		if v != (api.Value{}) {
			out = append(out, ask(api.OpExists, v))
		}
	}
	for _, v := range sides() {
		out = append(out, ask(api.OpExists, v))
		if v.Kind != api.KindText {
			out = append(out, ask(api.OpPrefix, v))
		}
	}
	return out
}

// P6.1: names of each length, of whatever bytes.
func TestRightNames(t *testing.T) {
	for length := range 300 {
		for _, p := range []api.Pred{exists(repeated(length)), {Name: strings.Repeat("\xff", length), Op: api.OpNe, Value: num(0)}, {Name: strings.Repeat("\x00", length), Op: api.OpPrefix, Value: text("")}} {
			if want := 1 <= length && length <= 16; pred.Right(p) != want {
				t.Errorf("a name of %d bytes, Op %d: Right tells %v", length, p.Op, !want)
			}
		}
	}
	for b := range 256 {
		if !pred.Right(exists(string([]byte{byte(b)}))) {
			t.Errorf("the name %x is not right", b)
		}
	}
	// Bytes count, not runes.
	if !pred.Right(exists(strings.Repeat("\xc3\xa4", 8))) || pred.Right(exists(strings.Repeat("\xc3\xa4", 8)+"a")) {
		t.Error("names of runes")
	}
}

// P6.1: each Op against values of each Kind and of none, right and not.
func TestRightOps(t *testing.T) {
	for _, x := range []struct {
		v    api.Value
		want string
	}{
		{num(0), "nyyyyyynnn"},
		{num(api.MinInt), "nyyyyyynnn"},
		{num(api.MaxInt), "nyyyyyynnn"},
		{boolean(0), "nyyyyyynnn"},
		{boolean(1), "nyyyyyynnn"},
		{text(""), "nyyyyyyynn"},
		{text("\xff\x00"), "nyyyyyyynn"},
		{text(repeated(31)), "nyyyyyyynn"},
		{text(repeated(32)), "nyyyyyyynn"},
		{text(strings.Repeat("\xff", 32)), "nyyyyyyynn"},
		{text(repeated(33)), "nnnnnnnnnn"},
		{text(repeated(64)), "nnnnnnnnnn"},
		{text(repeated(65)), "nnnnnnnnnn"},
		{text(repeated(256)), "nnnnnnnnnn"},
		{api.Value{}, "nnnnnnnnyn"},
		{api.Value{Int: 1}, "nnnnnnnnnn"},
		{api.Value{Text: "a"}, "nnnnnnnnnn"},
		{api.Value{Kind: 4}, "nnnnnnnnnn"},
		{api.Value{Kind: -1}, "nnnnnnnnnn"},
		{api.Value{Kind: api.KindInt, Text: "a"}, "nnnnnnnnnn"},
		{api.Value{Kind: api.KindText, Int: 1}, "nnnnnnnnnn"},
		{api.Value{Kind: api.KindBool, Int: 2}, "nnnnnnnnnn"},
		{api.Value{Kind: api.KindBool, Text: "a"}, "nnnnnnnnnn"},
	} {
		got := ""
		for op := range 10 {
			got += told(pred.Right(ask(op, x.v)))
		}
		if got != x.want {
			t.Errorf("against %#v the Ops 0 to 9 are right so: %s, and not %s", x.v, got, x.want)
		}
		for _, op := range strangeOps() {
			if pred.Right(ask(op, x.v)) {
				t.Errorf("Op %d against %#v is right", op, x.v)
			}
		}
	}
	if api.MaxName != 16 || api.MaxSide != 32 || api.OpEq != 1 || api.OpGe != 6 || api.OpPrefix != 7 || api.OpExists != 8 {
		t.Error("the numbers are others")
	}
}

// told tells an answer as a letter.
func told(answer bool) string {
	if answer {
		return "y"
	}
	return "n"
}

// P6.1: all that is right, and all that is not.
func TestRight(t *testing.T) {
	for _, p := range rights() {
		if !pred.Right(p) {
			t.Errorf("%#v is not right", p)
		}
	}
	for _, p := range wrongs() {
		if pred.Right(p) {
			t.Errorf("%#v is right", p)
		}
	}
}

// P6.2: each Op that goes by order, of a value that is less, equal, and greater.
func TestHoldsByOrder(t *testing.T) {
	for op, want := range map[int]string{api.OpEq: "nyn", api.OpNe: "yny", api.OpLt: "ynn", api.OpLe: "yyn", api.OpGt: "nny", api.OpGe: "nyy"} {
		for _, x := range [][3]api.Value{
			{num(4), num(5), num(6)},
			{num(-1), num(0), num(1)},
			{num(api.MinInt), num(0), num(api.MaxInt)},
			{num(api.MinInt), num(api.MinInt + 1), num(api.MaxInt)},
			{num(api.MinInt), num(api.MaxInt - 1), num(api.MaxInt)},
			{num(-1 << 40), num(1), num(1 << 40)},
			{text("a"), text("b"), text("c")},
			{text("a"), text("ab"), text("abc")},
			{text(""), text("\x00"), text("\x00\x00")},
			{text("z"), text("\x7f"), text("\x80")},
			{text("a\x7f"), text("a\x80"), text("a\xff")},
			{text("B"), text("a"), text("aB")},
			{text("ab"), text("b"), text("ba")},
			{text("\xc3"), text("\xc3\xa4"), text("\xff")},
			{text(repeated(31)), text(repeated(32)), text(repeated(33))},
			{text(repeated(31) + "a" + repeated(32)), text(repeated(32)), text(repeated(64))},
		} {
			got := ""
			for _, v := range x {
				got += told(pred.Holds(ask(op, x[1]), v))
			}
			if got != want {
				t.Errorf("Op %d against %#v of %#v: %s, and not %s", op, x[1], x, got, want)
			}
		}
	}
}

// P6.2: ends, which have nothing on one side.
func TestHoldsAtTheEnds(t *testing.T) {
	for _, x := range [][2]api.Value{
		{num(api.MinInt), num(api.MaxInt)}, {num(api.MinInt), num(api.MinInt + 1)}, {num(api.MaxInt - 1), num(api.MaxInt)}, {num(api.MinInt), num(1)}, {num(-2), num(api.MaxInt)},
		{text(""), text("\x00")}, {text(""), text("\xff")}, {text(""), text(repeated(32))}, {text("\xfe\xff"), text("\xff")}, {boolean(0), boolean(1)},
	} {
		for op, want := range map[int]string{api.OpEq: "ynny", api.OpNe: "nyyn", api.OpLt: "nynn", api.OpLe: "yyny", api.OpGt: "nnyn", api.OpGe: "ynyy"} {
			less, greater := ask(op, x[0]), ask(op, x[1])
			// The less one of itself and of the greater, turned round, and the greater of itself.
			got := told(pred.Holds(less, x[0])) + told(pred.Holds(greater, x[0])) + told(pred.Holds(less, x[1])) + told(pred.Holds(greater, x[1]))
			if got != want {
				t.Errorf("Op %d of %#v: %s, and not %s", op, x, got, want)
			}
		}
	}
}

// P6.2: texts that begin with another one, and such as do not.
func TestHoldsOfPrefix(t *testing.T) {
	for _, x := range []struct {
		side, v string
		want    bool
	}{
		{"", "", true}, {"", "a", true}, {"", "\x00", true}, {"", "\xff\xff", true}, {"", repeated(64), true},
		{"ab", "ab", true}, {"ab", "abc", true}, {"ab", "ab\x00", true}, {"ab", "ab\xff\xff", true}, {"ab", "ab" + repeated(62), true},
		{"ab", "", false}, {"ab", "a", false}, {"ab", "b", false}, {"ab", "ac", false}, {"ab", "aB", false}, {"ab", "xab", false}, {"ab", "a\x00b", false}, {"ab", "ba", false},
		{"\x00", "", false}, {"\x00", "\x00a", true}, {"\x00", "a", false},
		{"\xc3", "\xc3\xa4", true}, {"\xc3\xa4", "\xc3", false}, {"\xff", "\xff\x00", true}, {"\xff", "\xfe", false}, {"\x80", "\xc2\x80", false}, {"\xff", "\xef\xbf\xbd", false},
		{repeated(32), repeated(32), true}, {repeated(32), repeated(33), true}, {repeated(32), repeated(64), true},
		{repeated(32), repeated(31), false}, {repeated(32), repeated(31) + "y", false}, {repeated(32), repeated(31) + "y" + repeated(32), false},
	} {
		if got := pred.Holds(ask(api.OpPrefix, text(x.side)), text(x.v)); got != x.want {
			t.Errorf("%q begins with %q: %v", x.v, x.side, got)
		}
	}
	for _, v := range []api.Value{num(0), num(1), num(api.MinInt), boolean(0), boolean(1)} {
		for _, side := range []string{"", "a", "0", "1"} {
			if pred.Holds(ask(api.OpPrefix, text(side)), v) {
				t.Errorf("%#v begins with %q", v, side)
			}
		}
	}
}

// P6.2: a right value of whatever Kind is there.
func TestHoldsOfExists(t *testing.T) {
	for _, v := range slices.Concat(sides(), longTexts()) {
		if !pred.Holds(exists("a"), v) || !pred.Holds(exists("abcdefghijklmnop"), v) {
			t.Errorf("%#v is not there", v)
		}
	}
}

// P6.2, P6.7: a value of another Kind is not met, not even by OpNe.
func TestHoldsOfAnotherKind(t *testing.T) {
	for _, p := range rights() {
		for _, v := range slices.Concat(sides(), longTexts()) {
			if p.Op != api.OpExists && p.Value.Kind != v.Kind && pred.Holds(p, v) {
				t.Errorf("%#v holds of %#v", p, v)
			}
		}
	}
	if pred.Holds(ask(api.OpGt, num(5)), text("x")) || pred.Holds(ask(api.OpNe, num(1)), boolean(1)) || pred.Holds(ask(api.OpNe, text("")), num(0)) || pred.Holds(ask(api.OpEq, boolean(0)), num(0)) {
		t.Error("another Kind is met")
	}
}

// P6.2: nothing holds of a value that is not right, not even that it is there.
func TestHoldsOfAWrongValue(t *testing.T) {
	for _, v := range wrongValues() {
		for _, p := range rights() {
			if pred.Holds(p, v) {
				t.Errorf("%#v holds of %#v", p, v)
			}
		}
	}
	// Each of these would hold, if no one asked whether the value is right.
	for _, x := range []struct {
		p api.Pred
		v api.Value
	}{
		{exists("a"), api.Value{}}, {ask(api.OpEq, num(5)), api.Value{Kind: 1, Int: 5, Text: "b"}}, {ask(api.OpGt, num(5)), api.Value{Kind: 1, Int: 6, Text: "b"}},
		{ask(api.OpGt, boolean(1)), boolean(2)}, {ask(api.OpLt, boolean(0)), boolean(-1)}, {ask(api.OpNe, boolean(0)), boolean(7)},
		{ask(api.OpPrefix, text(repeated(32))), text(repeated(65))}, {ask(api.OpPrefix, text("a")), api.Value{Kind: 2, Int: 1, Text: "ab"}}, {ask(api.OpNe, text("a")), text(repeated(65))},
	} {
		if pred.Holds(x.p, x.v) {
			t.Errorf("%#v holds of %#v", x.p, x.v)
		}
	}
}

// P6.2: a predicate that is not right holds of nothing.
func TestHoldsOfAWrongPredicate(t *testing.T) {
	for _, p := range wrongs() {
		for _, v := range slices.Concat(sides(), longTexts(), wrongValues(), []api.Value{p.Value}) {
			if pred.Holds(p, v) {
				t.Errorf("%#v holds of %#v", p, v)
			}
		}
	}
}

// holdsByWords tells what the document says of a right predicate and a right value, by places in one rising row of values.
func holdsByWords(p api.Pred, v api.Value, row []api.Value) bool {
	if p.Op == api.OpExists {
		return true
	}
	if p.Value.Kind != v.Kind {
		return false
	}
	side, place := slices.Index(row, p.Value), slices.Index(row, v)
	return map[int]bool{
		api.OpEq: place == side, api.OpNe: place != side, api.OpLt: place < side, api.OpLe: place <= side, api.OpGt: place > side, api.OpGe: place >= side,
		api.OpPrefix: len(v.Text) >= len(p.Value.Text) && v.Text[:min(len(v.Text), len(p.Value.Text))] == p.Value.Text,
	}[p.Op]
}

// P6.2, P6.3: all right predicates of all right values, as the document's words have it.
func TestHoldsOfAll(t *testing.T) {
	row := slices.Concat(sides(), longTexts())
	slices.SortFunc(row, value.Compare)
	for _, p := range rights() {
		for _, v := range row {
			want := holdsByWords(p, v, row)
			if pred.Holds(p, v) != want {
				t.Fatalf("%#v of %#v: %v", p, v, !want)
			}
			if pred.Meets(p, []api.Attr{attr(p.Name, v)}) != want {
				t.Fatalf("%#v is met by %#v: %v", p, v, !want)
			}
		}
	}
}

// P6.3, P6.7: events that have the attribute, at each place, and such as have not, or have none.
func TestMeets(t *testing.T) {
	names := []string{"a", "a\x00", "ab", "b", "\xff", "abcdefghijklmnop"}
	l := []api.Attr{}
	for k, name := range names {
		l = append(l, attr(name, num(k)))
	}
	full, e := event.Make(l)
	if e != api.OK {
		t.Fatal(e)
	}
	for k, name := range names {
		same, other := api.Pred{Name: name, Op: api.OpEq, Value: num(k)}, api.Pred{Name: name, Op: api.OpNe, Value: num(k)}
		if !pred.Meets(exists(name), full) || !pred.Meets(same, full) || pred.Meets(other, full) {
			t.Errorf("%q of a full event", name)
		}
		rest := slices.DeleteFunc(slices.Clone(full), func(a api.Attr) bool { return a.Name == name })
		for _, without := range [][]api.Attr{rest, nil, {}} {
			if pred.Meets(exists(name), without) || pred.Meets(same, without) || pred.Meets(other, without) {
				t.Errorf("%q is not in %#v, and is met", name, without)
			}
		}
	}
	for _, p := range []api.Pred{exists("A"), exists("a "), exists("abc"), {Name: "c", Op: api.OpNe, Value: num(1)}, {Name: "aa", Op: api.OpPrefix, Value: text("")}} {
		if pred.Meets(p, full) {
			t.Errorf("%#v is met", p)
		}
	}
}

// P6.7: an attribute that is not there meets no predicate at all.
func TestMeetsOfNothing(t *testing.T) {
	for _, p := range slices.Concat(rights(), wrongs()) {
		other := []api.Attr{attr(p.Name+"z", p.Value), attr("zz", num(5))}
		for _, e := range [][]api.Attr{nil, {}, other} {
			if pred.Meets(p, e) {
				t.Errorf("%#v is met by %#v", p, e)
			}
		}
	}
}

// P6.3: an event that is not right is asked by its first attribute of the name alone.
func TestMeetsOfWhatIsNotRight(t *testing.T) {
	more := ask(api.OpGt, num(5))
	for _, x := range []struct {
		e    []api.Attr
		want bool
	}{
		{[]api.Attr{attr("a", num(6)), attr("a", num(4))}, true},
		{[]api.Attr{attr("a", num(4)), attr("a", num(6))}, false},
		{[]api.Attr{attr("b", num(4)), attr("a", num(6)), attr("a", num(4))}, true},
		{[]api.Attr{attr("b", num(6)), attr("a", num(4)), attr("b", num(6)), attr("a", num(6))}, false},
		{[]api.Attr{attr("a", text("6")), attr("a", num(6))}, false},
		{[]api.Attr{attr("a", api.Value{}), attr("a", num(6))}, false},
		{[]api.Attr{attr("a", api.Value{Kind: 1, Int: 6, Text: "x"})}, false},
		{[]api.Attr{attr("c", num(1)), attr("b", num(1)), attr("a", num(6))}, true},
		{[]api.Attr{attr("", api.Value{}), attr("a", num(6))}, true},
		{append(slices.Repeat([]api.Attr{attr("b", num(1))}, 1000), attr("a", num(6))), true},
	} {
		if got := pred.Meets(more, x.e); got != x.want {
			t.Errorf("a > 5 is met by %#v: %v", x.e, got)
		}
	}
}

// P6.3: a predicate that is not right is not met, though the event has such a name and such a value.
func TestMeetsOfAWrongPredicate(t *testing.T) {
	for _, p := range wrongs() {
		for _, v := range []api.Value{p.Value, num(5), text("a"), text(repeated(33)), boolean(1)} {
			if pred.Meets(p, []api.Attr{attr(p.Name, v)}) {
				t.Errorf("%#v is met by %#v", p, v)
			}
		}
	}
}

// P6.4: bytes of each Op and each Kind, written out.
func TestPut(t *testing.T) {
	for want, p := range map[string]api.Pred{
		"\x01a\x08":                        exists("a"),
		"\x10abcdefghijklmnop\x08":         exists("abcdefghijklmnop"),
		"\x02\x00\xff\x08":                 exists("\x00\xff"),
		"\x01a\x01\x01\x00":                ask(api.OpEq, num(0)),
		"\x01a\x02\x01\x01":                ask(api.OpNe, num(-1)),
		"\x01a\x03\x02\x02bc":              ask(api.OpLt, text("bc")),
		"\x01a\x04\x03\x00":                ask(api.OpLe, boolean(0)),
		"\x02ab\x05\x01\x0a":               {Name: "ab", Op: api.OpGt, Value: num(5)},
		"\x01a\x06\x03\x01":                ask(api.OpGe, boolean(1)),
		"\x01a\x07\x02\x00":                ask(api.OpPrefix, text("")),
		"\x01a\x07\x02\x01\x80":            ask(api.OpPrefix, text("\x80")),
		"\x01a\x01\x02\x20" + repeated(32): ask(api.OpEq, text(repeated(32))),
		"\x01a\x01\x01\xff\xff\xff\xff\xff\xff\xff\xff\xff\x01": ask(api.OpEq, num(api.MinInt)),
		"\x01a\x01\x01\xfe\xff\xff\xff\xff\xff\xff\xff\xff\x01": ask(api.OpEq, num(api.MaxInt)),
	} {
		if got := pred.Put(nil, p); string(got) != want {
			t.Errorf("Put of %#v: %x, and not %x", p, got, want)
		}
	}
}

// bytesOf tells the bytes of a right predicate by the document's words.
func bytesOf(p api.Pred) string {
	b := string([]byte{byte(len(p.Name))}) + p.Name + string([]byte{byte(p.Op)})
	if p.Op != api.OpExists {
		b += string(value.Put(nil, p.Value))
	}
	return b
}

// P6.4: bytes that are there stay ahead; of a predicate that is not right they are all there is.
func TestPutBehind(t *testing.T) {
	for _, ahead := range []string{"", "x", "\x01a\x08", strings.Repeat("\xff", 300)} {
		for _, p := range rights() {
			if got := pred.Put([]byte(ahead), p); string(got) != ahead+bytesOf(p) {
				t.Errorf("Put of %#v behind %x: %x", p, ahead, got)
			}
		}
		for _, p := range wrongs() {
			if got := pred.Put([]byte(ahead), p); string(got) != ahead {
				t.Errorf("Put of %#v behind %x: %x", p, ahead, got)
			}
		}
	}
	for _, p := range wrongs() {
		if got := pred.Put(nil, p); len(got) != 0 {
			t.Errorf("Put of %#v behind nothing: %x", p, got)
		}
	}
}

// P6.5: what was laid is read as it was, and what stands behind it is left.
func TestGet(t *testing.T) {
	for _, p := range rights() {
		for _, behind := range []string{"", "\x00", "\xff", "\x01a\x08", repeated(100)} {
			s := wire.On(append(pred.Put(nil, p), behind...))
			if got := pred.Get(s); got != p || s.Err() != api.OK || s.Left() != len(behind) {
				t.Errorf("Get of %#v and %x: %#v, %v, %d left", p, behind, got, s.Err(), s.Left())
			}
			if behind == "" && s.End() != api.OK {
				t.Errorf("Get of %#v: %v at the end", p, s.End())
			}
		}
		s := wire.On(wire.PutText(pred.Put(wire.Put(nil, 300), p), "next"))
		if n, got, next := s.Num(), pred.Get(s), s.Text(4); n != 300 || got != p || next != "next" || s.End() != api.OK {
			t.Errorf("Get of %#v between others: %#v, %q, %v", p, got, next, s.End())
		}
	}
}

// P6.5: many predicates, one behind the other.
func TestGetOfARow(t *testing.T) {
	var b []byte
	for _, p := range rights() {
		b = pred.Put(b, p)
	}
	s := wire.On(b)
	for _, p := range rights() {
		if got := pred.Get(s); got != p {
			t.Fatalf("Get of %#v: %#v, %v", p, got, s.Err())
		}
	}
	if s.End() != api.OK || s.Left() != 0 {
		t.Error("the row ends with", s.End())
	}
}

// mustRefuse holds that Get tells nothing of b, and this error, which stays, with nothing left.
func mustRefuse(t *testing.T, b string, want api.Errno) {
	t.Helper()
	s := wire.On([]byte(b))
	for range 2 {
		if got := pred.Get(s); got != (api.Pred{}) || s.Err() != want || s.Left() != 0 || s.End() != want {
			t.Errorf("Get of %x: %#v, %v, %d left, and not %v", b, got, s.Err(), s.Left(), want)
		}
	}
}

// P6.5: bytes that end too early, at each place.
func TestGetOfTooFew(t *testing.T) {
	for _, p := range rights() {
		b := bytesOf(p)
		for k := range len(b) {
			mustRefuse(t, b[:k], api.ErrShort)
		}
	}
}

// P6.5: each kind of wrong bytes, and of two faults the one that the document names first.
func TestGetOfWrongBytes(t *testing.T) {
	nine := strings.Repeat("\xff", 9)
	for _, x := range []struct {
		b    string
		want api.Errno
	}{
		// The name: Text(16), and then whether it is empty.
		{"", api.ErrShort}, {"\x80", api.ErrShort}, {"\x01", api.ErrShort}, {"\x02a", api.ErrShort}, {"\x10" + repeated(15), api.ErrShort},
		{"\x80\x00", api.ErrForm}, {"\x81\x00a\x08", api.ErrForm}, {nine + "\x02", api.ErrForm}, {nine, api.ErrShort},
		{"\x11", api.ErrLimit}, {"\x11" + repeated(17) + "\x08", api.ErrLimit}, {"\x81\x01" + repeated(129), api.ErrLimit}, {nine + "\x01", api.ErrLimit},
		{"\x00", api.ErrForm}, {"\x00\x08", api.ErrForm}, {"\x00\x01\x01\x00", api.ErrForm},
		// An empty name is told ahead of whatever the Op is.
		{"\x00\x09", api.ErrForm}, {"\x00\x00", api.ErrForm}, {"\x00\x80", api.ErrForm}, {"\x00\x01\x04", api.ErrForm},
		// A name that is too long, or too short, ahead of that too.
		{"\x11\x00", api.ErrLimit}, {"\x11" + repeated(17) + "\x00", api.ErrLimit}, {"\x03\x00\x09", api.ErrShort},
		// The Op: Upto(8), and then whether it is 0.
		{"\x01a", api.ErrShort}, {"\x01a\x80", api.ErrShort}, {"\x01a" + nine, api.ErrShort},
		{"\x01a\x80\x00", api.ErrForm}, {"\x01a\x88\x00", api.ErrForm}, {"\x01a\x89\x00", api.ErrForm}, {"\x01a" + nine + "\x02", api.ErrForm},
		{"\x01a\x09", api.ErrLimit}, {"\x01a\x7f", api.ErrLimit}, {"\x01a\x88\x01", api.ErrLimit}, {"\x01a\x81\x02\x01\x00", api.ErrLimit}, {"\x01a" + nine + "\x01", api.ErrLimit},
		{"\x01a\x00", api.ErrForm}, {"\x01a\x00\x01\x00", api.ErrForm},
		// An Op that may not be is told ahead of whatever the value is.
		{"\x01a\x09\x00", api.ErrLimit}, {"\x01a\x09\x01\x80\x00", api.ErrLimit}, {"\x01a\x00\x04", api.ErrForm}, {"\x01a\x00\x80", api.ErrForm}, {"\x01a\x00\x02\x41", api.ErrForm},
		// The value: its own errors.
		{"\x01a\x01", api.ErrShort}, {"\x01a\x01\x80", api.ErrShort}, {"\x01a\x01\x01", api.ErrShort}, {"\x01a\x06\x02", api.ErrShort}, {"\x01a\x07\x02\x01", api.ErrShort}, {"\x01a\x01\x03", api.ErrShort},
		{"\x01a\x01\x00", api.ErrForm}, {"\x01a\x07\x00", api.ErrForm}, {"\x01a\x01\x80\x00", api.ErrForm}, {"\x01a\x01\x01\x80\x00", api.ErrForm}, {"\x01a\x01\x03\x80\x00", api.ErrForm},
		{"\x01a\x01\x04", api.ErrLimit}, {"\x01a\x01\x03\x02", api.ErrLimit}, {"\x01a\x01\x02\x41", api.ErrLimit}, {"\x01a\x01\x02\x41" + repeated(65), api.ErrLimit},
		// A prefix that is no text.
		{"\x01a\x07\x01\x00", api.ErrForm}, {"\x01a\x07\x01\x0a", api.ErrForm}, {"\x01a\x07\x03\x00", api.ErrForm}, {"\x01a\x07\x03\x01", api.ErrForm},
		// The value's own errors are told ahead of that.
		{"\x01a\x07", api.ErrShort}, {"\x01a\x07\x01", api.ErrShort}, {"\x01a\x07\x03", api.ErrShort}, {"\x01a\x07\x01\x80", api.ErrShort}, {"\x01a\x07\x03\x02", api.ErrLimit}, {"\x01a\x07\x04", api.ErrLimit},
		// A text that is too long to be held against, of an attribute's length or longer, or cut.
		{"\x01a\x07\x02\x21" + repeated(33), api.ErrForm}, {"\x01a\x07\x02\x40" + repeated(64), api.ErrForm}, {"\x01a\x07\x02\x41" + repeated(65), api.ErrLimit},
		{"\x01a\x07\x02\x21" + repeated(32), api.ErrShort}, {"\x01a\x01\x02\x40" + repeated(63), api.ErrShort},
	} {
		mustRefuse(t, x.b, x.want)
	}
}

// P6.5: of each Op but OpExists a text of 32 bytes is read, and a longer one refused; so are all but texts of OpPrefix.
func TestGetOfSides(t *testing.T) {
	for op := api.OpEq; op <= api.OpPrefix; op++ {
		head := "\x01a" + string([]byte{byte(op)})
		for length := range 128 {
			b := head + "\x02" + string([]byte{byte(length)}) + strings.Repeat("\xff", length)
			switch {
			case length <= 32:
				s := wire.On([]byte(b))
				if got := pred.Get(s); got != ask(op, text(strings.Repeat("\xff", length))) || s.End() != api.OK {
					t.Errorf("Get of %x: %#v, %v", b, got, s.End())
				}
			case length <= 64:
				mustRefuse(t, b, api.ErrForm)
				mustRefuse(t, b+"\x00", api.ErrForm)
			default:
				mustRefuse(t, b, api.ErrLimit)
			}
		}
	}
	// Of OpExists no value is read, whatever comes next.
	for _, next := range []string{"\x00", "\x01\x00", "\x02\x21" + repeated(33), "\x04", "\x80\x00"} {
		s := wire.On([]byte("\x01a\x08" + next))
		if got := pred.Get(s); got != exists("a") || s.Err() != api.OK || s.Left() != len(next) {
			t.Errorf("Get of OpExists ahead of %x: %#v, %v, %d left", next, got, s.Err(), s.Left())
		}
	}
}

// P6.5: a scan that has failed already stays as it is, whatever there was to read.
func TestGetOfAFailedScan(t *testing.T) {
	for _, p := range rights() {
		for _, e := range []api.Errno{api.ErrArg, api.ErrShort, api.ErrForm, api.ErrLimit, api.ErrMore, api.ErrDead, 99, -1} {
			s := wire.On(pred.Put(nil, p))
			s.Fail(e)
			if got := pred.Get(s); got != (api.Pred{}) || s.Err() != e || s.Left() != 0 {
				t.Errorf("Get of a scan with %v: %#v, %v, %d left", e, got, s.Err(), s.Left())
			}
		}
	}
	s := wire.On([]byte("\x05\x01a\x08"))
	s.Upto(4)
	if got := pred.Get(s); got != (api.Pred{}) || s.Err() != api.ErrLimit {
		t.Errorf("Get behind a number that is too great: %#v, %v", got, s.Err())
	}
}

// expected tells what the document says that Get reads of b, how many bytes that has, and which error there is first.
func expected(b []byte) (api.Pred, int, api.Errno) {
	s := wire.On(b)
	name := s.Text(16)
	if e := s.Err(); e != api.OK {
		return api.Pred{}, 0, e
	}
	if len(name) == 0 {
		return api.Pred{}, 0, api.ErrForm
	}
	op := s.Upto(8)
	if e := s.Err(); e != api.OK {
		return api.Pred{}, 0, e
	}
	if op == 0 {
		return api.Pred{}, 0, api.ErrForm
	}
	if op == 8 {
		return exists(name), len(b) - s.Left(), api.OK
	}
	v := value.Get(s)
	if e := s.Err(); e != api.OK {
		return api.Pred{}, 0, e
	}
	if op == 7 && v.Kind != 2 || len(v.Text) > 32 {
		return api.Pred{}, 0, api.ErrForm
	}
	return api.Pred{Name: name, Op: op, Value: v}, len(b) - s.Left(), api.OK
}

// mustGetAsExpected holds Get of b against the document's words, and what was read against its one form.
func mustGetAsExpected(t *testing.T, b []byte) {
	t.Helper()
	want, length, e := expected(b)
	left := len(b) - length
	if e != api.OK {
		left = 0
	}
	s := wire.On(b)
	if got := pred.Get(s); got != want || s.Err() != e || s.Left() != left {
		t.Fatalf("Get of %x: %#v, %v, %d left, and not %#v, %v, %d", b, got, s.Err(), s.Left(), want, e, left)
	}
	if e == api.OK && (!pred.Right(want) || !bytes.Equal(pred.Put(nil, want), b[:length])) {
		t.Fatalf("Get of %x: %#v, which is not right, or has other bytes", b, want)
	}
}

// P6.5: whatever the bytes are, they are those of a right predicate that was read, or refused.
func TestGetOfAllBytes(t *testing.T) {
	letters := []byte{0, 1, 2, 3, 4, 7, 8, 9, 0x11, 0x80}
	for length := range 6 {
		for row := range power(len(letters), length) {
			b := []byte{}
			for range length {
				b = append(b, letters[row%len(letters)])
				row /= len(letters)
			}
			mustGetAsExpected(t, b)
		}
	}
	for op := range 256 {
		for kind := range 256 {
			for _, behind := range []string{"", "\x00", "\x01", "\x02ab", "\x80\x01", "\x20" + repeated(32), "\x21" + repeated(33), "\x41" + repeated(65)} {
				mustGetAsExpected(t, append([]byte{1, 'a', byte(op), byte(kind)}, behind...))
			}
		}
	}
}

// power tells how many rows of that length there are of so many letters.
func power(letters, length int) int {
	out := 1
	for range length {
		out *= letters
	}
	return out
}

// P6.5: right bytes of which one is another one.
func TestGetOfSpoiltBytes(t *testing.T) {
	for _, p := range []api.Pred{exists("ab"), ask(api.OpGt, num(300)), ask(api.OpPrefix, text("bcd")), ask(api.OpEq, text(repeated(32))), ask(api.OpLe, boolean(1))} {
		b := pred.Put(nil, p)
		for place := range b {
			for x := range 256 {
				spoilt := bytes.Clone(b)
				spoilt[place] = byte(x)
				mustGetAsExpected(t, spoilt)
			}
		}
	}
}

// P6.6: bytes that are handed in stay as they are, and their spare room; what is answered shares neither.
func TestPutIsNewMemory(t *testing.T) {
	for _, p := range slices.Concat(rights(), wrongs()) {
		for _, length := range []int{0, 1, 9} {
			room := bytes.Repeat([]byte{7}, length+100)
			got, again := pred.Put(room[:length], p), pred.Put(room[:length], p)
			want := bytes.Clone(got)
			if !bytes.Equal(room, bytes.Repeat([]byte{7}, length+100)) {
				t.Fatalf("Put of %#v changed what it was handed", p)
			}
			for k := range room {
				room[k] = 9
			}
			if !bytes.Equal(got, want) {
				t.Fatalf("what Put of %#v told is what it was handed", p)
			}
			whole := got[:cap(got)]
			for k := range whole {
				whole[k] = 5
			}
			if !bytes.Equal(room, bytes.Repeat([]byte{9}, length+100)) || !bytes.Equal(again, want) {
				t.Fatalf("what Put of %#v told shares memory", p)
			}
		}
	}
}

// P6.6: what Get told stays, whatever becomes of the bytes it was read from.
func TestGetIsNewMemory(t *testing.T) {
	first, second := api.Pred{Name: "abc", Op: api.OpPrefix, Value: text("de")}, api.Pred{Name: "f", Op: api.OpNe, Value: text("gh")}
	b := pred.Put(pred.Put(nil, first), second)
	s := wire.On(b)
	one := pred.Get(s)
	for k := range b {
		b[k] = 'z'
	}
	two := pred.Get(s)
	s.Fail(api.ErrArg)
	if one != first || two != second {
		t.Errorf("Get told %#v, %#v", one, two)
	}
}

// P6.6: an event that is handed in stays as it was, its spare room too, and is not kept.
func TestEventsStay(t *testing.T) {
	room := slices.Repeat([]api.Attr{attr("spare", num(1))}, 10)
	room[0], room[1], room[2] = attr("b", num(4)), attr("a", num(6)), attr("a", num(4))
	kept := slices.Clone(room)
	for _, p := range slices.Concat(rights(), wrongs()) {
		pred.Meets(p, room[:3])
	}
	if !slices.Equal(room, kept) {
		t.Errorf("of %#v there is %#v left", kept, room)
	}
	more := ask(api.OpGt, num(5))
	for range 3 {
		if !pred.Meets(more, room[:3]) || pred.Meets(more, room[2:]) || pred.Meets(exists("spare"), room[:3]) || !pred.Meets(exists("spare"), room) {
			t.Error("what is told hangs on what was handed in ahead")
		}
	}
	room[1].Value = num(5)
	if pred.Meets(more, room[:3]) {
		t.Error("the event was kept")
	}
}
