package span_test

import (
	"math/rand"
	"slices"
	"strings"
	"testing"

	"rosette/api"
	"rosette/pred"
	"rosette/span"
	"rosette/value"
)

func num(n int) api.Value { return api.Value{Kind: api.KindInt, Int: n} }

func text(s string) api.Value { return api.Value{Kind: api.KindText, Text: s} }

func boolean(n int) api.Value { return api.Value{Kind: api.KindBool, Int: n} }

// ask tells a predicate of the attribute a.
func ask(op int, v api.Value) api.Pred { return api.Pred{Name: "a", Op: op, Value: v} }

func exists() api.Pred { return api.Pred{Name: "a", Op: api.OpExists} }

func repeated(n int) string { return strings.Repeat("x", n) }

func zeros(n int) string { return strings.Repeat("\x00", n) }

func nums(l ...int) []api.Value {
	out := []api.Value{}
	for _, n := range l {
		out = append(out, num(n))
	}
	return out
}

func texts(l ...string) []api.Value {
	out := []api.Value{}
	for _, s := range l {
		out = append(out, text(s))
	}
	return out
}

// none tells the span of the empty set.
func none() api.Span { return api.Span{} }

// ints tells a span of ints.
func ints(lo, hi int, not ...int) api.Span {
	return api.Span{Kind: api.KindInt, Lo: lo, Hi: hi, Not: nums(not...)}
}

// bools tells a span of bools.
func bools(lo, hi int) api.Span { return api.Span{Kind: api.KindBool, Lo: lo, Hi: hi} }

// open tells a span of texts without an end.
func open(from string, not ...string) api.Span {
	return api.Span{Kind: api.KindText, From: from, Open: true, Not: texts(not...)}
}

// ahead tells a span of texts with an end.
func ahead(from, to string, not ...string) api.Span {
	return api.Span{Kind: api.KindText, From: from, To: to, Not: texts(not...)}
}

// row tells predicates of the attribute a: operators and values, by turns.
func row(l ...any) []api.Pred {
	out := []api.Pred{}
	for k := 0; k < len(l); k += 2 {
		v := api.Value{}
		switch x := l[k+1].(type) {
		case int:
			v = num(x)
		case string:
			v = text(x)
		case api.Value:
			v = x
		}
		out = append(out, ask(l[k].(int), v))
	}
	return out
}

// met tells the span of predicates, met one by one.
func met(preds []api.Pred) api.Span {
	a := span.All()
	for _, p := range preds {
		a = span.Meet(a, span.Of(p))
	}
	return a
}

func same(a, b api.Span) bool {
	return a.Kind == b.Kind && a.Lo == b.Lo && a.Hi == b.Hi && a.From == b.From && a.To == b.To && a.Open == b.Open && slices.Equal(a.Not, b.Not)
}

// check says what a span is, if it is not the one that is wanted.
func check(t *testing.T, what any, got, want api.Span) {
	t.Helper()
	if !same(got, want) {
		t.Errorf("%#v:\n%#v, and not\n%#v", what, got, want)
	}
}

// holdsAll tells if all of preds hold of v.
func holdsAll(preds []api.Pred, v api.Value) bool {
	for _, p := range preds {
		if !pred.Holds(p, v) {
			return false
		}
	}
	return true
}

// nearInts tells the ints near which anything of preds ends: each side, the ends of ints, and as many beside each as there are predicates, and one.
func nearInts(preds []api.Pred) []int {
	out := []int{}
	beside := func(n int) {
		for k := -len(preds) - 1; k <= len(preds)+1; k++ {
			if m := n + k; k < 0 == (m < n) {
				out = append(out, m)
			}
		}
	}
	beside(api.MinInt)
	beside(api.MaxInt)
	for _, p := range preds {
		beside(p.Value.Int)
	}
	slices.Sort(out)
	return slices.Compact(out)
}

// nearTexts tells the texts near which anything of preds ends: each side, the empty text, and these with as many bytes 0 as there are predicates, and one; and with bytes ff.
func nearTexts(preds []api.Pred) []string {
	sides := []string{""}
	for _, p := range preds {
		sides = append(sides, p.Value.Text, endOfPrefix(p.Value.Text))
	}
	out := []string{}
	for _, s := range sides {
		for k := range len(preds) + 2 {
			out = append(out, s+zeros(k), strings.TrimSuffix(s, zeros(k)))
		}
		out = append(out, s+strings.Repeat("\xff", 64-len(s)), s+"\x01")
	}
	slices.Sort(out)
	return slices.Compact(out)
}

// endOfPrefix tells the text that ends those that begin with s, as the chapter's words say; an empty one, if there is none.
func endOfPrefix(s string) string {
	for strings.HasSuffix(s, "\xff") {
		s = s[:len(s)-1]
	}
	if s == "" {
		return ""
	}
	return s[:len(s)-1] + string([]byte{s[len(s)-1] + 1})
}

// near tells values of each kind near which anything of preds ends.
func near(preds []api.Pred) []api.Value {
	return slices.Concat(nums(nearInts(preds)...), texts(nearTexts(preds)...), []api.Value{boolean(0), boolean(1)})
}

// expected tells the span of preds by the chapter's words: from the values that all of them hold of.
func expected(preds []api.Pred) api.Span {
	kinds := map[int]bool{}
	for _, p := range preds {
		if !pred.Right(p) {
			return none()
		}
		if p.Op != api.OpExists {
			kinds[p.Value.Kind] = true
		}
	}
	if len(kinds) == 0 {
		return api.Span{Kind: api.SpanAny}
	}
	in, out := []api.Value{}, []api.Value{}
	for _, v := range near(preds) {
		if holdsAll(preds, v) {
			in = append(in, v)
		} else if kinds[v.Kind] {
			out = append(out, v)
		}
	}
	if len(in) == 0 {
		return none()
	}
	least, most := in[0], in[len(in)-1]
	want := api.Span{Kind: least.Kind}
	if least.Kind == api.KindText {
		want.From = least.Text
		want.To, want.Open = expectedEnd(preds)
		for _, v := range out {
			if v.Text >= want.From && (want.Open || v.Text < want.To) {
				want.Not = append(want.Not, v)
			}
		}
		return want
	}
	want.Lo, want.Hi = least.Int, most.Int
	for _, v := range out {
		if v.Int >= want.Lo && v.Int <= want.Hi {
			want.Not = append(want.Not, v)
		}
	}
	return want
}

// expectedEnd tells the end of the texts that preds hold of, and if there is none, by the chapter's words.
func expectedEnd(preds []api.Pred) (string, bool) {
	told := []string{}
	for _, p := range preds {
		switch p.Op {
		case api.OpLt:
			told = append(told, p.Value.Text)
		case api.OpLe, api.OpEq:
			told = append(told, p.Value.Text+"\x00")
		case api.OpPrefix:
			if s := endOfPrefix(p.Value.Text); s != "" {
				told = append(told, s)
			}
		}
	}
	if len(told) == 0 {
		return "", true
	}
	end := slices.Min(told)
	for strings.HasSuffix(end, "\x00") && !holdsAll(preds, text(end[:len(end)-1])) {
		end = end[:len(end)-1]
	}
	return end, false
}

// expectedPreds tells the row of predicates of a span, by the chapter's words.
func expectedPreds(name string, a api.Span) []api.Pred {
	out := []api.Pred{}
	tell := func(op int, v api.Value) { out = append(out, api.Pred{Name: name, Op: op, Value: v}) }
	if a.Kind == api.SpanNone || name == "" || len(name) > 16 {
		return out
	}
	if a.Kind == api.SpanAny {
		tell(api.OpExists, api.Value{})
		return out
	}
	isText := a.Kind == api.KindText
	switch {
	case isText && !a.Open && a.To == a.From+"\x00":
		tell(api.OpEq, text(a.From))
		return out
	case !isText && a.Lo == a.Hi:
		tell(api.OpEq, api.Value{Kind: a.Kind, Int: a.Lo})
		return out
	case a.Kind == api.KindBool:
		tell(api.OpGe, boolean(0))
		return out
	}
	if !isText && a.Lo > api.MinInt {
		tell(api.OpGe, num(a.Lo))
	}
	if !isText && a.Hi < api.MaxInt {
		tell(api.OpLe, num(a.Hi))
	}
	if n := len(a.From); n > 0 && a.From[n-1] == 0 {
		tell(api.OpGt, text(a.From[:n-1]))
	} else if n > 0 {
		tell(api.OpGe, text(a.From))
	}
	if n := len(a.To); isText && !a.Open && a.To[n-1] == 0 {
		tell(api.OpLe, text(a.To[:n-1]))
	} else if isText && !a.Open {
		tell(api.OpLt, text(a.To))
	}
	for _, v := range a.Not {
		tell(api.OpNe, v)
	}
	if len(out) == 0 && isText {
		tell(api.OpGe, text(""))
	} else if len(out) == 0 {
		tell(api.OpGe, num(api.MinInt))
	}
	return out
}

// sides tells right values against which an attribute may be held: of each kind, at the ends of each.
func sides() []api.Value {
	out := nums(api.MinInt, api.MinInt+1, api.MinInt+2, -7, -1, 0, 1, 2, 3, 1<<40, api.MaxInt-2, api.MaxInt-1, api.MaxInt)
	out = append(out, boolean(0), boolean(1))
	return append(out, texts(
		"", "\x00", zeros(2), zeros(3), zeros(31), zeros(32), "\x00\x01", "\x01", "a", "a\x00", "a\x00\x00", "a\x00\x01", "a\x01", "aa", "ab", "a\xfe", "a\xff", "a\xff\x00", "a\xff\xff", "b", "b\x00",
		repeated(31), repeated(31)+"\x00", repeated(31)+"\xff", repeated(32), "\xfe", "\xfe\xff", "\xff", "\xff\x00", "\xff\xff", "\xff\xfe\xff", strings.Repeat("\xff", 31), strings.Repeat("\xff", 32),
	)...)
}

// rights tells right predicates: each Op against all that it may be held against.
func rights() []api.Pred {
	out := []api.Pred{exists()}
	for _, v := range sides() {
		for op := api.OpEq; op <= api.OpGe; op++ {
			out = append(out, ask(op, v))
		}
		if v.Kind == api.KindText {
			out = append(out, ask(api.OpPrefix, v))
		}
	}
	return out
}

// wrongs tells predicates that are not right.
func wrongs() []api.Pred {
	out := []api.Pred{{}, {Op: api.OpExists}, {Name: repeated(17), Op: api.OpExists}, {Op: api.OpEq, Value: num(1)}, {Name: repeated(17), Op: api.OpPrefix, Value: text("a")}}
	for _, op := range []int{0, -1, 9, 257, api.MinInt, api.MaxInt} {
		out = append(out, ask(op, num(1)), ask(op, text("a")), ask(op, boolean(1)), ask(op, api.Value{}))
	}
	for _, v := range []api.Value{num(1), text(""), text("a"), boolean(0), {Kind: 4}} {
		out = append(out, ask(api.OpExists, v))
	}
	for _, v := range []api.Value{{}, {Kind: 4}, {Kind: -1}, boolean(2), boolean(-1), {Kind: api.KindInt, Text: "a"}, {Kind: api.KindText, Int: 1}, {Kind: api.KindBool, Text: "a"}, text(repeated(33)), text(zeros(33)), text(repeated(64)), text(repeated(65))} {
		for op := api.OpEq; op <= api.OpPrefix; op++ {
			out = append(out, ask(op, v))
		}
	}
	return append(out, ask(api.OpPrefix, num(1)), ask(api.OpPrefix, boolean(1)))
}

// fewPreds tells the predicates of which all rows of three are tried: such as stand close together.
func fewPreds() []api.Pred {
	out := []api.Pred{}
	for _, v := range slices.Concat(texts("", "\x00", "a", "a\x00", "a\x00\x00", "\xff"), nums(3, 4, 5), []api.Value{boolean(0)}) {
		for op := api.OpEq; op <= api.OpGe; op++ {
			out = append(out, ask(op, v))
		}
		if v.Kind == api.KindText {
			out = append(out, ask(api.OpPrefix, v))
		}
	}
	return out
}

// rows tells rows of predicates: all of one, many of more, drawn from a fixed seed, most of them of one kind and not empty.
func rows() [][]api.Pred {
	all := rights()
	out := [][]api.Pred{{}}
	for _, p := range all {
		out = append(out, []api.Pred{p})
	}
	draw := rand.New(rand.NewSource(7))
	byKind := map[int][]api.Pred{}
	for _, p := range all {
		byKind[p.Value.Kind] = append(byKind[p.Value.Kind], p)
	}
	narrow := func(p api.Pred) bool { return p.Op == api.OpEq }
	for range 4000 {
		from := slices.DeleteFunc(slices.Clone(byKind[1+draw.Intn(3)]), narrow)
		l := []api.Pred{}
		for range 1 + draw.Intn(8) {
			p := from[draw.Intn(len(from))]
			if draw.Intn(2) == 0 {
				p.Op = api.OpNe
			}
			l = append(l, p)
		}
		out = append(out, l)
	}
	return out
}

// spans tells spans of all kinds, each once.
func spans() []api.Span {
	out := []api.Span{none(), span.All()}
	for _, p := range rights() {
		out = append(out, span.Of(p))
	}
	for _, l := range rows() {
		if len(l) > 1 && len(out) < 700 {
			out = append(out, met(l))
		}
	}
	once := []api.Span{}
	for _, a := range out {
		if !slices.ContainsFunc(once, func(b api.Span) bool { return same(a, b) }) {
			once = append(once, a)
		}
	}
	return once
}

// samples tells right values of each kind, near each side.
func samples() []api.Value {
	out := []api.Value{boolean(0), boolean(1)}
	for _, v := range sides() {
		switch v.Kind {
		case api.KindInt:
			out = append(out, v)
			if v.Int > api.MinInt {
				out = append(out, num(v.Int-1))
			}
			if v.Int < api.MaxInt {
				out = append(out, num(v.Int+1))
			}
		case api.KindText:
			out = append(out, v, text(v.Text+"\x00"), text(v.Text+zeros(2)), text(v.Text+"\x01"), text(v.Text+strings.Repeat("\xff", 64-len(v.Text))))
			out = append(out, text(endOfPrefix(v.Text)), text(strings.TrimSuffix(v.Text, "\x00")))
		}
	}
	slices.SortFunc(out, value.Compare)
	return slices.Compact(out)
}

// wrongValues tells values that are not right.
func wrongValues() []api.Value {
	return []api.Value{{}, {Int: 1}, {Text: "a"}, {Kind: 4}, {Kind: 4, Int: 5}, {Kind: -1}, {Kind: 257}, boolean(2), boolean(-1), {Kind: api.KindInt, Int: 5, Text: "a"}, {Kind: api.KindText, Text: "a", Int: 1}, {Kind: api.KindBool, Text: "a"}, text(repeated(65))}
}

// P7.1: All has each right value, and all its fields but Kind are zero.
func TestAll(t *testing.T) {
	check(t, "All", span.All(), api.Span{Kind: 4})
	if api.SpanAny != 4 || api.SpanNone != 0 {
		t.Error("the numbers are others")
	}
	for _, v := range samples() {
		if !span.Has(span.All(), v) {
			t.Errorf("All has no %#v", v)
		}
	}
}

// P7.1: each Op against ints, at the ends and beside them.
func TestOfInts(t *testing.T) {
	const least, most = api.MinInt, api.MaxInt
	for _, x := range []struct {
		op, n int
		want  api.Span
	}{
		{1, least, ints(least, least)}, {1, least + 1, ints(least+1, least+1)}, {1, 5, ints(5, 5)}, {1, most - 1, ints(most-1, most-1)}, {1, most, ints(most, most)},
		{2, least, ints(least+1, most)}, {2, least + 1, ints(least, most, least+1)}, {2, 5, ints(least, most, 5)}, {2, most - 1, ints(least, most, most-1)}, {2, most, ints(least, most-1)},
		{3, least, none()}, {3, least + 1, ints(least, least)}, {3, least + 2, ints(least, least+1)}, {3, 0, ints(least, -1)}, {3, 5, ints(least, 4)}, {3, most - 1, ints(least, most-2)}, {3, most, ints(least, most-1)},
		{4, least, ints(least, least)}, {4, least + 1, ints(least, least+1)}, {4, 0, ints(least, 0)}, {4, most - 1, ints(least, most-1)}, {4, most, ints(least, most)},
		{5, least, ints(least+1, most)}, {5, least + 1, ints(least+2, most)}, {5, -1, ints(0, most)}, {5, most - 2, ints(most-1, most)}, {5, most - 1, ints(most, most)}, {5, most, none()},
		{6, least, ints(least, most)}, {6, least + 1, ints(least+1, most)}, {6, 0, ints(0, most)}, {6, most - 1, ints(most-1, most)}, {6, most, ints(most, most)},
		{7, 5, none()}, {8, 5, none()},
	} {
		check(t, x, span.Of(ask(x.op, num(x.n))), x.want)
	}
}

// P7.1: each Op against bools.
func TestOfBools(t *testing.T) {
	for op, want := range [][2]api.Span{
		{none(), none()},
		{bools(0, 0), bools(1, 1)},
		{bools(1, 1), bools(0, 0)},
		{none(), bools(0, 0)},
		{bools(0, 0), bools(0, 1)},
		{bools(1, 1), none()},
		{bools(0, 1), bools(1, 1)},
		{none(), none()},
		{none(), none()},
	} {
		for n := range 2 {
			check(t, []int{op, n}, span.Of(ask(op, boolean(n))), want[n])
		}
	}
}

// P7.1: each Op against texts: the empty one, such as end with bytes 0, with bytes ff, that have no other byte, and of 32 bytes.
func TestOfTexts(t *testing.T) {
	long, full := repeated(32), strings.Repeat("\xff", 32)
	for _, x := range []struct {
		op   int
		s    string
		want api.Span
	}{
		{1, "", ahead("", "\x00")}, {1, "\x00", ahead("\x00", zeros(2))}, {1, "a", ahead("a", "a\x00")}, {1, "a\x00", ahead("a\x00", "a\x00\x00")}, {1, "\xff", ahead("\xff", "\xff\x00")}, {1, long, ahead(long, long+"\x00")}, {1, full, ahead(full, full+"\x00")}, {1, zeros(32), ahead(zeros(32), zeros(33))},
		{2, "", open("\x00")}, {2, "\x00", open("", "\x00")}, {2, "a", open("", "a")}, {2, "a\x00", open("", "a\x00")}, {2, "\xff", open("", "\xff")}, {2, full, open("", full)},
		{3, "", none()}, {3, "\x00", ahead("", "\x00")}, {3, zeros(2), ahead("", zeros(2))}, {3, "a", ahead("", "a")}, {3, "a\x00", ahead("", "a\x00")}, {3, "\xff", ahead("", "\xff")}, {3, long, ahead("", long)}, {3, zeros(32), ahead("", zeros(32))},
		{4, "", ahead("", "\x00")}, {4, "\x00", ahead("", zeros(2))}, {4, "a", ahead("", "a\x00")}, {4, "a\x00", ahead("", "a\x00\x00")}, {4, "\xff", ahead("", "\xff\x00")}, {4, long, ahead("", long+"\x00")}, {4, full, ahead("", full+"\x00")},
		{5, "", open("\x00")}, {5, "\x00", open(zeros(2))}, {5, "a", open("a\x00")}, {5, "a\x00", open("a\x00\x00")}, {5, "\xff", open("\xff\x00")}, {5, long, open(long + "\x00")}, {5, full, open(full + "\x00")}, {5, zeros(32), open(zeros(33))},
		{6, "", open("")}, {6, "\x00", open("\x00")}, {6, "a", open("a")}, {6, "a\x00", open("a\x00")}, {6, "\xff", open("\xff")}, {6, full, open(full)},
		{7, "", open("")}, {7, "\x00", ahead("\x00", "\x01")}, {7, "a", ahead("a", "b")}, {7, "ab", ahead("ab", "ac")}, {7, "a\x00", ahead("a\x00", "a\x01")}, {7, "a\x7f", ahead("a\x7f", "a\x80")}, {7, "a\xfe", ahead("a\xfe", "a\xff")},
		{7, "a\xff", ahead("a\xff", "b")}, {7, "a\xff\xff", ahead("a\xff\xff", "b")}, {7, "\xfe\xff", ahead("\xfe\xff", "\xff")}, {7, "\xff", open("\xff")}, {7, "\xff\xff", open("\xff\xff")}, {7, full, open(full)}, {7, "\xff\xfe", ahead("\xff\xfe", "\xff\xff")}, {7, "\xff\x00", ahead("\xff\x00", "\xff\x01")}, {7, "\xffa\xff", ahead("\xffa\xff", "\xffb")},
		{7, long, ahead(long, repeated(31)+"y")}, {7, "\xc3\xa4", ahead("\xc3\xa4", "\xc3\xa5")}, {7, "\x00\xff", ahead("\x00\xff", "\x01")}, {7, "a" + full[:31], ahead("a"+full[:31], "b")},
		{8, "", none()}, {8, "a", none()},
	} {
		check(t, x, span.Of(ask(x.op, text(x.s))), x.want)
	}
}

// P7.1: OpExists, and each predicate that is not right.
func TestOfOthers(t *testing.T) {
	check(t, "exists", span.Of(exists()), span.All())
	for _, p := range wrongs() {
		if pred.Right(p) {
			t.Fatalf("%#v is right", p)
		}
		check(t, p, span.Of(p), none())
	}
}

// P7.1: the name does not matter, if it is one.
func TestOfNames(t *testing.T) {
	for _, name := range []string{"b", "\x00", "\xff", repeated(16)} {
		check(t, name, span.Of(api.Pred{Name: name, Op: api.OpGt, Value: num(5)}), ints(6, api.MaxInt))
		check(t, name, span.Of(api.Pred{Name: name, Op: api.OpExists}), span.All())
	}
}

// P7.1, P7.3: a value is in the span of a predicate just if that holds of it.
func TestOfHolds(t *testing.T) {
	all := slices.Concat(samples(), wrongValues())
	for _, p := range slices.Concat(rights(), wrongs()) {
		a := span.Of(p)
		check(t, p, a, expected([]api.Pred{p}))
		for _, v := range all {
			if got, want := span.Has(a, v), pred.Holds(p, v); got != want {
				t.Errorf("%#v of %#v: Has tells %v", p, v, got)
			}
		}
	}
}

// P7.2: ints: which ends, and where values of Not stand.
func TestMeetInts(t *testing.T) {
	const least, most = api.MinInt, api.MaxInt
	for _, x := range []struct {
		row  []api.Pred
		want api.Span
	}{
		{row(6, 3, 3, 6, 2, 3), ints(4, 5)},
		{row(6, 3, 4, 9), ints(3, 9)},
		{row(6, 3, 6, 5, 4, 9, 4, 8), ints(5, 8)},
		{row(6, 5, 4, 4), none()},
		{row(6, 5, 4, 5), ints(5, 5)},
		{row(5, 4, 3, 6), ints(5, 5)},
		{row(5, 4, 3, 5), none()},
		{row(1, 5, 1, 5), ints(5, 5)},
		{row(1, 5, 1, 6), none()},
		{row(1, 5, 2, 5), none()},
		{row(1, 5, 2, 6), ints(5, 5)},
		{row(2, 7, 2, 5, 2, 6), ints(least, most, 5, 6, 7)},
		{row(2, 5, 2, 5), ints(least, most, 5)},
		{row(6, 5, 2, 5), ints(6, most)},
		{row(6, 5, 2, 7, 2, 6, 2, 5), ints(8, most)},
		{row(6, 5, 2, 5, 2, 7), ints(6, most, 7)},
		{row(2, 7, 2, 6, 6, 5, 2, 5), ints(8, most)},
		{row(2, 7, 2, 6, 6, 5), ints(5, most, 6, 7)},
		{row(4, 5, 2, 5), ints(least, 4)},
		{row(4, 5, 2, 3, 2, 4, 2, 5), ints(least, 2)},
		{row(4, 5, 2, 3, 2, 5), ints(least, 4, 3)},
		{row(6, 1, 4, 9, 2, 1, 2, 9, 2, 5), ints(2, 8, 5)},
		{row(6, 1, 4, 9, 2, 0, 2, 10, 2, 5), ints(1, 9, 5)},
		{row(6, 1, 4, 4, 2, 1, 2, 2, 2, 4), ints(3, 3)},
		{row(6, 1, 4, 4, 2, 1, 2, 3, 2, 4), ints(2, 2)},
		{row(6, 1, 4, 3, 2, 2, 2, 3), ints(1, 1)},
		{row(6, 1, 4, 3, 2, 1, 2, 2), ints(3, 3)},
		{row(6, 1, 4, 3, 2, 1, 2, 2, 2, 3), none()},
		{row(6, 1, 4, 3, 2, 3, 2, 1, 2, 2), none()},
		{row(6, 1, 4, 3, 2, 2), ints(1, 3, 2)},
		{row(2, least, 2, most), ints(least+1, most-1)},
		{row(2, least, 2, least+1, 2, most, 2, most-1), ints(least+2, most-2)},
		{row(4, least, 2, least), none()},
		{row(6, most, 2, most), none()},
		{row(4, least+1, 2, least), ints(least+1, least+1)},
		{row(6, most-1, 2, most), ints(most-1, most-1)},
		{row(6, most-1, 2, most, 2, most-1), none()},
		{row(4, least+1, 2, least+1, 2, least), none()},
		{row(3, least), none()}, {row(5, most), none()},
		{row(6, least, 4, most), ints(least, most)},
		{row(8, nil, 6, 3), ints(3, most)},
		{row(6, 3, 8, nil), ints(3, most)},
		{row(8, nil, 8, nil), span.All()},
		{row(6, 3, 8, 5), none()},
		{row(), span.All()},
		{row(1, 1, 1, "a"), none()}, {row(6, 0, 6, boolean(0)), none()}, {row(1, boolean(1), 1, 1), none()}, {row(2, "a", 2, boolean(0)), none()}, {row(2, 5, 2, "5"), none()},
		{row(6, boolean(0), 4, boolean(1)), bools(0, 1)}, {row(2, boolean(0), 2, boolean(1)), none()}, {row(2, boolean(0), 6, boolean(0)), bools(1, 1)}, {row(2, boolean(1), 2, boolean(1)), bools(0, 0)}, {row(1, boolean(0), 1, boolean(1)), none()},
	} {
		check(t, x.row, met(x.row), x.want)
		check(t, x.row, expected(x.row), x.want)
	}
}

// P7.2: texts: which From and which end, and where values of Not stand.
func TestMeetTexts(t *testing.T) {
	long := repeated(32)
	for _, x := range []struct {
		row  []api.Pred
		want api.Span
	}{
		{row(6, "a", 3, "c"), ahead("a", "c")},
		{row(6, "a", 6, "ab", 3, "c", 3, "bz"), ahead("ab", "bz")},
		{row(6, "c", 3, "c"), none()}, {row(6, "d", 3, "c"), none()}, {row(5, "c", 4, "c"), none()},
		{row(6, "c", 4, "c"), ahead("c", "c\x00")},
		{row(5, "c", 4, "c\x00"), ahead("c\x00", "c\x00\x00")},
		{row(5, "c", 3, "c\x00"), none()},
		{row(5, "c", 4, "c\x00\x00"), ahead("c\x00", "c\x00\x00\x00")},
		{row(6, "c", 3, "c\x00\x00"), ahead("c", "c\x00\x00")},
		// From moves by a byte 0, or by several, as they stand in Not.
		{row(6, "a", 2, "a"), open("a\x00")},
		{row(6, "a", 2, "a", 2, "a\x00"), open("a\x00\x00")},
		{row(6, "a", 2, "a\x00\x00", 2, "a\x00", 2, "a"), open("a\x00\x00\x00")},
		{row(2, "a\x00\x00", 2, "a\x00", 6, "a"), open("a", "a\x00", "a\x00\x00")},
		{row(2, "a\x00\x00", 5, "a"), open("a\x00", "a\x00\x00")},
		{row(2, "a\x00", 5, "a"), open("a\x00\x00")},
		{row(6, "a", 2, "a", 2, "a\x00\x00"), open("a\x00", "a\x00\x00")},
		{row(6, "a", 2, "a", 2, "aa"), open("a\x00", "aa")},
		{row(2, ""), open("\x00")}, {row(2, "", 2, "\x00", 2, zeros(2)), open(zeros(3))}, {row(2, "\x00", 2, zeros(3), 2, ""), open(zeros(2), zeros(3))},
		{row(6, long, 2, long), open(long + "\x00")}, {row(6, zeros(31), 2, zeros(31), 2, zeros(32)), open(zeros(33))},
		{row(7, "a", 2, "a"), ahead("a\x00", "b")}, {row(7, "a", 2, "a", 2, "a\x00", 2, "ab", 2, "b"), ahead("a\x00\x00", "b", "ab")},
		{row(7, "\xff", 2, "\xff"), open("\xff\x00")},
		// The end moves to the text without its byte 0.
		{row(4, "b", 2, "b"), ahead("", "b")},
		{row(4, "b\x00", 2, "b\x00"), ahead("", "b\x00")},
		{row(4, "b\x00", 2, "b"), ahead("", "b\x00\x00", "b")},
		{row(4, "b\x00", 2, "b", 2, "b\x00"), ahead("", "b")},
		{row(4, "b\x00\x00", 2, "b\x00\x00", 2, "b\x00", 2, "b"), ahead("", "b")},
		{row(4, "b\x00\x00", 2, "b\x00\x00", 2, "b"), ahead("", "b\x00\x00", "b")},
		{row(3, "b\x00", 2, "b"), ahead("", "b")}, {row(3, "b\x00\x00", 2, "b\x00"), ahead("", "b\x00")}, {row(3, "b\x00\x00", 2, "b", 2, "b\x00"), ahead("", "b")}, {row(3, "b", 2, "b"), ahead("", "b")},
		{row(3, "b", 2, "a\xff"), ahead("", "b", "a\xff")}, {row(4, long, 2, long), ahead("", long)}, {row(4, zeros(32), 2, zeros(32), 2, zeros(31)), ahead("", zeros(31))},
		{row(6, "b", 4, "b\x00\x00", 2, "b\x00\x00", 2, "b\x00"), ahead("b", "b\x00")},
		{row(6, "b", 4, "b\x00\x00", 2, "b\x00\x00", 2, "b"), ahead("b\x00", "b\x00\x00")},
		{row(6, "b", 4, "b\x00\x00", 2, "b\x00", 2, "b"), ahead("b\x00\x00", "b\x00\x00\x00")},
		{row(6, "b", 4, "b\x00\x00", 2, "b\x00"), ahead("b", "b\x00\x00\x00", "b\x00")},
		{row(6, "b", 4, "b\x00\x00", 2, "b\x00\x00", 2, "b\x00", 2, "b"), none()},
		{row(1, "a", 2, "a"), none()}, {row(1, "a", 2, "a\x00"), ahead("a", "a\x00")}, {row(4, "", 2, ""), none()}, {row(4, "\x00", 2, ""), ahead("\x00", zeros(2))}, {row(4, "\x00", 2, "\x00"), ahead("", "\x00")}, {row(4, "\x00", 2, "\x00", 2, ""), none()}, {row(3, ""), none()},
		// Which of the ends is the least.
		{row(4, "b", 3, "b"), ahead("", "b")}, {row(4, "b", 3, "b\x00"), ahead("", "b\x00")}, {row(4, "b", 7, "b"), ahead("b", "b\x00")}, {row(4, "ab", 7, "a"), ahead("a", "ab\x00")}, {row(4, "c", 7, "a"), ahead("a", "b")}, {row(3, "b", 7, "a"), ahead("a", "b")}, {row(3, "a\xff", 7, "a"), ahead("a", "a\xff")},
		{row(7, "a", 7, "ab"), ahead("ab", "ac")}, {row(7, "a", 7, "b"), none()}, {row(7, "ab", 7, "a\xff"), none()}, {row(7, "a", 7, "a\xff"), ahead("a\xff", "b")}, {row(1, "ab", 7, "a"), ahead("ab", "ab\x00")}, {row(1, "b", 7, "a"), none()}, {row(1, "a", 3, "b", 4, "c"), ahead("a", "a\x00")},
		// Open ones.
		{row(6, "a", 6, "b"), open("b")}, {row(7, "\xff", 6, "a"), open("\xff")}, {row(7, "\xff", 3, "\xff\x01"), ahead("\xff", "\xff\x01")}, {row(3, "\xff\x01", 7, "\xff"), ahead("\xff", "\xff\x01")}, {row(7, "", 7, "\xff"), open("\xff")}, {row(7, "", 4, "a"), ahead("", "a\x00")}, {row(2, "c", 2, "a", 7, "", 2, "b"), open("", "a", "b", "c")},
		// Not rises, each once, and only those between the ends.
		{row(2, "c", 2, "b", 2, "c", 2, "a", 6, "b"), open("b\x00", "c")}, {row(2, "c", 2, "b", 2, "a", 4, "b"), ahead("", "b", "a")}, {row(2, "a\xff", 2, "a", 2, "a\x00", 2, "B", 2, "aa"), open("", "B", "a", "a\x00", "aa", "a\xff")}, {row(2, "a", 2, "d", 6, "b", 3, "c"), ahead("b", "c")},
	} {
		check(t, x.row, met(x.row), x.want)
		check(t, x.row, expected(x.row), x.want)
	}
}

// P7.2: spans of SpanAny and SpanNone, and of two kinds.
func TestMeetKinds(t *testing.T) {
	all := spans()
	for _, a := range all {
		check(t, a, span.Meet(a, span.All()), a)
		check(t, a, span.Meet(span.All(), a), a)
		check(t, a, span.Meet(a, none()), none())
		check(t, a, span.Meet(none(), a), none())
		check(t, a, span.Meet(a, a), a)
		for _, b := range all {
			if a.Kind != b.Kind && a.Kind != api.SpanAny && b.Kind != api.SpanAny {
				check(t, []api.Span{a, b}, span.Meet(a, b), none())
			}
		}
	}
}

// P7.2: all rows of two and of three that stand close together, and a row of many, by the chapter's words.
func TestMeetExpected(t *testing.T) {
	for _, l := range rows() {
		check(t, l, met(l), expected(l))
	}
	few := fewPreds()
	for _, p := range few {
		for _, q := range few {
			check(t, []api.Pred{p, q}, met([]api.Pred{p, q}), expected([]api.Pred{p, q}))
			if p.Value.Kind != q.Value.Kind {
				continue
			}
			for _, r := range few {
				if r.Op == api.OpNe || p.Op == api.OpNe {
					l := []api.Pred{p, q, r}
					check(t, l, met(l), expected(l))
				}
			}
		}
	}
}

// P7.2: many values of Not, at both ends and between.
func TestMeetMany(t *testing.T) {
	a := span.Meet(span.Of(ask(api.OpGe, num(0))), span.Of(ask(api.OpLe, num(1000))))
	for n := 999; n > 0; n -= 2 {
		a = span.Meet(span.Of(ask(api.OpNe, num(n))), a)
	}
	if a.Lo != 0 || a.Hi != 1000 || len(a.Not) != 500 || !slices.IsSortedFunc(a.Not, value.Compare) {
		t.Errorf("%d %d, %d values", a.Lo, a.Hi, len(a.Not))
	}
	b := span.All()
	for n := 1000; n >= 0; n -= 2 {
		b = span.Meet(b, span.Of(ask(api.OpNe, num(n))))
	}
	if len(b.Not) != 501 {
		t.Errorf("%d values", len(b.Not))
	}
	check(t, "both", span.Meet(a, b), none())
	check(t, "both", span.Meet(b, a), none())
	row := []api.Pred{}
	for n := range 33 {
		row = append(row, ask(api.OpNe, text(zeros(n))))
	}
	check(t, "zeros", met(row), open(zeros(33)))
	slices.Reverse(row)
	check(t, "zeros", met(row), open(zeros(33)))
	check(t, "zeros", span.Meet(met(row), span.Of(ask(api.OpLe, text(zeros(32))))), none())
}

// P7.2, P7.6: Meet may be told in any order and in any parts.
func TestMeetOrder(t *testing.T) {
	draw := rand.New(rand.NewSource(11))
	for _, l := range rows() {
		want := met(l)
		turned := slices.Clone(l)
		for range 3 {
			draw.Shuffle(len(turned), func(i, k int) { turned[i], turned[k] = turned[k], turned[i] })
			check(t, turned, met(turned), want)
			at := draw.Intn(len(turned) + 1)
			check(t, turned, span.Meet(met(turned[:at]), met(turned[at:])), want)
			check(t, turned, span.Meet(met(turned[at:]), met(turned[:at])), want)
			check(t, turned, span.Meet(want, met(turned[:at])), want)
		}
	}
	all := spans()
	for range 3000 {
		a, b, c := all[draw.Intn(len(all))], all[draw.Intn(len(all))], all[draw.Intn(len(all))]
		check(t, []api.Span{a, b}, span.Meet(a, b), span.Meet(b, a))
		check(t, []api.Span{a, b, c}, span.Meet(a, span.Meet(b, c)), span.Meet(span.Meet(a, b), c))
	}
}

// P7.2, P7.3: a value is in the span of some predicates just if all of them hold of it.
func TestHasRows(t *testing.T) {
	few := samples()
	for k, l := range rows() {
		a := met(l)
		for _, v := range near(l) {
			if got, want := span.Has(a, v), holdsAll(l, v) && value.Right(v); got != want {
				t.Errorf("%#v of %#v: Has tells %v", l, v, got)
			}
		}
		if k%10 == 0 {
			for _, v := range few {
				if got, want := span.Has(a, v), holdsAll(l, v); got != want {
					t.Errorf("%#v of %#v: Has tells %v", l, v, got)
				}
			}
		}
	}
}

// P7.3: Has at each end, beside it, in Not, of another kind, and of values that are not right.
func TestHas(t *testing.T) {
	for _, x := range []struct {
		a         api.Span
		have, not []api.Value
	}{
		{ints(3, 9, 5, 7), nums(3, 4, 6, 8, 9), append(nums(2, 5, 7, 10, api.MinInt, api.MaxInt), text(""), text("4"), boolean(0), boolean(1))},
		{ints(0, 1), nums(0, 1), append(nums(-1, 2), boolean(0), boolean(1), text(""))},
		{ints(api.MinInt, api.MaxInt, 0), nums(api.MinInt, api.MaxInt, -1, 1), append(nums(0), text(""), boolean(0), boolean(1))},
		{ints(api.MinInt, api.MinInt), nums(api.MinInt), nums(api.MinInt+1, api.MaxInt, 0)},
		{bools(0, 1), []api.Value{boolean(0), boolean(1)}, append(nums(0, 1), text(""))},
		{bools(0, 0), []api.Value{boolean(0)}, append(nums(0, 1), boolean(1))},
		{bools(1, 1), []api.Value{boolean(1)}, append(nums(0, 1), boolean(0))},
		{ahead("b", "d", "c"), texts("b", "b\x00", "b\xff", "bb", "c\x00", "cz", "c"+strings.Repeat("\xff", 63)), append(texts("", "a", "a\xff", "c", "d", "d\x00", "\xff"), num(0), boolean(0))},
		{ahead("b\x00", "d\x00"), texts("b\x00", "b\x00\x00", "b\x01", "d", "c"), texts("b", "d\x00", "d\x00\x00", "d\x01", "dd")},
		{open("b", "c"), texts("b", "d", "\xff", strings.Repeat("\xff", 64), repeated(64)), append(texts("", "a", "c", "a"+strings.Repeat("\xff", 63)), num(0), boolean(0))},
		{open(""), texts("", "\x00", "a", repeated(64)), append(nums(0), boolean(0))},
		{ahead("", "\x00"), texts(""), append(texts("\x00", "a"), num(0), boolean(0))},
		{none(), nil, samples()},
		{span.All(), samples(), nil},
	} {
		for _, v := range x.have {
			if !span.Has(x.a, v) {
				t.Errorf("%#v has no %#v", x.a, v)
			}
		}
		for _, v := range slices.Concat(x.not, wrongValues()) {
			if span.Has(x.a, v) {
				t.Errorf("%#v has %#v", x.a, v)
			}
		}
	}
}

// P7.3: In of each against each, by the values that are in them.
func TestInEach(t *testing.T) {
	all, few := spans(), samples()
	have := make([][]bool, len(all))
	for k, a := range all {
		for _, v := range few {
			have[k] = append(have[k], span.Has(a, v))
		}
	}
	subset := func(a, b []bool) bool {
		for k := range a {
			if a[k] && !b[k] {
				return false
			}
		}
		return true
	}
	for i, a := range all {
		for k, b := range all {
			// The samples stand at all ends of these spans and beside them, so that they tell all that differs.
			if got, want := span.In(a, b), subset(have[i], have[k]); got != want {
				t.Errorf("In tells %v of\n%#v and\n%#v", got, a, b)
			}
			if span.In(a, b) && span.In(b, a) != same(a, b) {
				t.Errorf("two spans of one set:\n%#v and\n%#v", a, b)
			}
		}
	}
}

// P7.3: In of parts, and of two that differ in one value alone, at an end or between.
func TestIn(t *testing.T) {
	const least, most = api.MinInt, api.MaxInt
	for _, x := range []struct{ part, all api.Span }{
		{ints(4, 9), ints(3, 9)}, {ints(3, 8), ints(3, 9)}, {ints(3, 9, 5), ints(3, 9)}, {ints(3, 9, 4, 5), ints(3, 9, 4)}, {ints(3, 9, 4, 5), ints(3, 9, 5)}, {ints(3, 9, 4, 5, 6), ints(3, 9, 4, 6)}, {ints(6, 9), ints(3, 9, 5)}, {ints(3, 4), ints(3, 9, 5)}, {ints(4, 4), ints(3, 9, 5)}, {ints(4, 8, 6), ints(3, 9, 6)},
		{ints(least, most, 0), ints(least, most)}, {ints(least+1, most), ints(least, most)}, {ints(least, most-1), ints(least, most)}, {ints(least, least), ints(least, most)}, {ints(least, most), span.All()}, {ints(most, most), span.All()},
		{bools(0, 0), bools(0, 1)}, {bools(1, 1), bools(0, 1)}, {bools(0, 1), span.All()},
		{ahead("b", "c"), ahead("b", "c\x00")}, {ahead("b\x00", "c"), ahead("b", "c")}, {ahead("b", "c", "bb"), ahead("b", "c")}, {ahead("b", "c", "bb", "bc"), ahead("b", "c", "bb")}, {ahead("b", "c"), ahead("b", "d", "c")}, {ahead("b", "c"), open("b")}, {ahead("b", "c"), open("", "c")}, {open("b"), open("a")}, {open("b\x00"), open("b")}, {open("b", "c"), open("b")}, {open("b"), open("", "a")}, {open("", "a", "b"), open("", "b")}, {open(""), span.All()}, {ahead("", "\x00"), span.All()}, {ahead("a", "a\x00"), ahead("a", "b")}, {ahead("a", "a\x00"), ahead("a", "a\x00\x00")}, {ahead("b", "c"), ahead("a", "d", "aa", "cc")}, {open("\xff\x00"), open("\xff")}, {ahead("", "\xff"), open("")},
		{none(), ints(3, 3)}, {none(), ints(least, most)}, {none(), bools(0, 0)}, {none(), open("")}, {none(), ahead("", "\x00")}, {none(), span.All()},
	} {
		if !span.In(x.part, x.all) || span.In(x.all, x.part) || !span.In(x.part, x.part) || !span.In(x.all, x.all) {
			t.Errorf("%#v", x)
		}
	}
	for _, x := range [][2]api.Span{
		{ints(3, 5), ints(4, 6)}, {ints(3, 5), ints(6, 9)}, {ints(3, 9, 5), ints(3, 9, 6)}, {ints(3, 9, 5), ints(4, 9)}, {ints(3, 9, 4), ints(3, 5)}, {ints(0, 1), bools(0, 1)}, {ints(0, 0), bools(0, 0)}, {ints(0, 0), ahead("", "\x00")}, {ints(least, most), open("")}, {bools(0, 1), open("")}, {bools(0, 0), bools(1, 1)},
		{ahead("a", "c"), ahead("b", "d")}, {ahead("a", "b"), ahead("b", "c")}, {ahead("a", "c", "b"), ahead("a", "c", "bb")}, {open("b"), ahead("a", "c")}, {open("", "a"), open("", "b")}, {open("b"), ahead("a\x00", "d")}, {ahead("a", "a\x00"), ahead("b", "b\x00")},
	} {
		if span.In(x[0], x[1]) || span.In(x[1], x[0]) {
			t.Errorf("%#v", x)
		}
	}
	if !span.In(none(), none()) {
		t.Error("the empty set is not in itself")
	}
}

// P7.4: the row of each kind of span.
func TestPreds(t *testing.T) {
	const least, most = api.MinInt, api.MaxInt
	long := repeated(32)
	for _, x := range []struct {
		a    api.Span
		want []api.Pred
	}{
		{none(), row()}, {span.All(), row(8, nil)},
		{ints(5, 5), row(1, 5)}, {ints(least, least), row(1, least)}, {ints(most, most), row(1, most)}, {ints(0, 0), row(1, 0)},
		{bools(0, 0), row(1, boolean(0))}, {bools(1, 1), row(1, boolean(1))}, {bools(0, 1), row(6, boolean(0))},
		{ints(least, most), row(6, least)}, {ints(3, most), row(6, 3)}, {ints(least, 9), row(4, 9)}, {ints(3, 9), row(6, 3, 4, 9)}, {ints(0, 1), row(6, 0, 4, 1)}, {ints(least+1, most), row(6, least+1)}, {ints(least, most-1), row(4, most-1)}, {ints(least+1, most-1), row(6, least+1, 4, most-1)}, {ints(most-1, most), row(6, most-1)}, {ints(least, least+1), row(4, least+1)},
		{ints(least, most, 0), row(2, 0)}, {ints(least, most, -5, 0, 7), row(2, -5, 2, 0, 2, 7)}, {ints(3, 9, 4, 8), row(6, 3, 4, 9, 2, 4, 2, 8)}, {ints(3, most, 5), row(6, 3, 2, 5)}, {ints(least, 9, 5), row(4, 9, 2, 5)}, {ints(3, 5, 4), row(6, 3, 4, 5, 2, 4)},
		{ahead("", "\x00"), row(1, "")}, {ahead("a", "a\x00"), row(1, "a")}, {ahead("a\x00", "a\x00\x00"), row(1, "a\x00")}, {ahead("\x00", zeros(2)), row(1, "\x00")}, {ahead(long, long+"\x00"), row(1, long)},
		{open(""), row(6, "")}, {open("a"), row(6, "a")}, {open("a\x00"), row(5, "a")}, {open("a\x00\x00"), row(5, "a\x00")}, {open("\x00"), row(5, "")}, {open(zeros(2)), row(5, "\x00")}, {open(long), row(6, long)}, {open(long + "\x00"), row(5, long)}, {open(zeros(33)), row(5, zeros(32))},
		{ahead("", "b"), row(3, "b")}, {ahead("", "b\x00"), row(4, "b")}, {ahead("", "b\x00\x00"), row(4, "b\x00")}, {ahead("", zeros(2)), row(4, "\x00")}, {ahead("", long), row(3, long)}, {ahead("", long+"\x00"), row(4, long)},
		{ahead("a", "b"), row(6, "a", 3, "b")}, {ahead("a", "b\x00"), row(6, "a", 4, "b")}, {ahead("a\x00", "b"), row(5, "a", 3, "b")}, {ahead("a\x00", "b\x00"), row(5, "a", 4, "b")}, {ahead("a", "a\x00\x00"), row(6, "a", 4, "a\x00")}, {ahead("\x00", "\x01"), row(5, "", 3, "\x01")},
		{open("", "a"), row(2, "a")}, {open("", "a", "a\x00", "b"), row(2, "a", 2, "a\x00", 2, "b")}, {open("a", "b"), row(6, "a", 2, "b")}, {open("a\x00", "b"), row(5, "a", 2, "b")}, {ahead("", "c", "b"), row(3, "c", 2, "b")}, {ahead("a", "c\x00", "b", "ba"), row(6, "a", 4, "c", 2, "b", 2, "ba")},
	} {
		if got := span.Preds("a", x.a); !slices.Equal(got, x.want) {
			t.Errorf("%#v:\n%#v, and not\n%#v", x.a, got, x.want)
		}
		if got := expectedPreds("a", x.a); !slices.Equal(got, x.want) {
			t.Errorf("%#v:\n%#v, and not\n%#v, is expected", x.a, got, x.want)
		}
	}
}

// P7.4: names of each length, and of whatever bytes.
func TestPredsNames(t *testing.T) {
	all := []api.Span{none(), span.All(), ints(5, 5), ints(3, 9, 4), ints(api.MinInt, api.MaxInt), bools(0, 1), open(""), ahead("a\x00", "b\x00", "aa"), ahead("a", "a\x00")}
	for n := range 40 {
		for _, name := range []string{repeated(n), zeros(n), strings.Repeat("\xff", n)} {
			for _, a := range all {
				if got := span.Preds(name, a); !slices.Equal(got, expectedPreds(name, a)) {
					t.Errorf("a name of %d bytes: %#v", n, got)
				}
			}
		}
	}
	for _, n := range []int{0, 17, 256, 257, 272, 1 << 16} {
		if got := span.Preds(repeated(n), ints(3, 9, 4)); len(got) != 0 {
			t.Errorf("a name of %d bytes: %#v", n, got)
		}
	}
	for _, n := range []int{1, 16} {
		if got := span.Preds(repeated(n), ints(3, 9, 4)); len(got) != 3 || got[0].Name != repeated(n) || got[2].Name != repeated(n) {
			t.Errorf("a name of %d bytes: %#v", n, got)
		}
	}
}

// P7.4, P7.6: what Preds tells is right, and tells the same span again, if met one by one; whatever row told it, it has one row.
func TestPredsAgain(t *testing.T) {
	all := spans()
	for _, l := range rows() {
		all = append(all, met(l))
	}
	for _, a := range all {
		l := span.Preds("a", a)
		if !slices.Equal(l, expectedPreds("a", a)) {
			t.Errorf("%#v:\n%#v", a, l)
		}
		if len(l) == 0 != (a.Kind == api.SpanNone) {
			t.Errorf("%#v: %d predicates", a, len(l))
		}
		for _, p := range l {
			if !pred.Right(p) {
				t.Errorf("%#v: %#v is not right", a, p)
			}
		}
		if a.Kind != api.SpanNone {
			check(t, l, met(l), a)
			slices.Reverse(l)
			check(t, l, met(l), a)
		}
	}
}

// P7.6: rows that tell one set have one span, and one row.
func TestOneSpan(t *testing.T) {
	const least, most = api.MinInt, api.MaxInt
	for _, l := range [][][]api.Pred{
		{row(3, 6), row(4, 5), row(4, 6, 2, 6), row(4, 5, 3, 9, 2, 6, 2, 7)},
		{row(1, 4), row(5, 3, 3, 5), row(6, 3, 4, 5, 2, 3, 2, 5), row(6, 4, 4, 4)},
		{row(6, least), row(4, most), row(6, least, 4, most)},
		{row(2, least), row(5, least), row(6, least+1)},
		{row(6, boolean(0)), row(4, boolean(1))},
		{row(1, boolean(1)), row(2, boolean(0)), row(5, boolean(0)), row(6, boolean(1))},
		{row(1, boolean(0)), row(2, boolean(1)), row(3, boolean(1)), row(4, boolean(0))},
		{row(6, ""), row(7, ""), row(7, "", 6, "")},
		{row(2, ""), row(5, ""), row(6, "\x00"), row(6, "", 2, "")},
		{row(7, "a"), row(6, "a", 3, "b"), row(6, "a", 4, "b", 2, "b"), row(6, "a", 4, "b\x00", 2, "b\x00", 2, "b")},
		{row(7, "\xff"), row(6, "\xff")},
		{row(7, "a\xff"), row(6, "a\xff", 3, "b")},
		{row(4, "a"), row(3, "a\x00"), row(3, "a\x00\x00", 2, "a\x00"), row(4, "a\x00", 2, "a\x00")},
		{row(5, "a"), row(6, "a\x00"), row(6, "a", 2, "a")},
		{row(5, "a\x00"), row(6, "a", 2, "a", 2, "a\x00"), row(5, "a", 2, "a\x00")},
		{row(1, ""), row(4, ""), row(3, "\x00"), row(4, "\x00", 2, "\x00")},
		{row(1, "a\x00"), row(5, "a", 4, "a\x00"), row(6, "a", 4, "a\x00", 2, "a"), row(5, "a", 3, "a\x00\x00")},
		{row(8, nil), row(), row(8, nil, 8, nil)},
		{row(3, ""), row(3, least), row(5, most), row(1, 1, 1, 2), row(1, "", 1, boolean(0)), row(1, "a", 2, "a"), row(0, 5)},
	} {
		a := met(l[0])
		for _, other := range l[1:] {
			check(t, other, met(other), a)
			if !slices.Equal(span.Preds("n", met(other)), span.Preds("n", a)) {
				t.Errorf("%#v: another row than %#v", other, l[0])
			}
			if !span.In(a, met(other)) || !span.In(met(other), a) {
				t.Errorf("%#v and %#v: In", other, l[0])
			}
		}
	}
}

// padded tells a whose Not has spare room, and all that room.
func padded(a api.Span) (api.Span, []api.Value) {
	mark := api.Value{Kind: 77, Int: 77, Text: "mark"}
	room := append(slices.Clone(a.Not), mark, mark, mark)
	a.Not = room[:len(a.Not)]
	return a, room
}

// P7.5: what is handed in is neither changed, nor its spare room.
func TestArgumentsStay(t *testing.T) {
	all := spans()
	for _, a := range all {
		given, room := padded(a)
		kept := slices.Clone(room)
		for k := 0; k < len(all); k += 5 {
			other, otherRoom := padded(all[k])
			otherKept := slices.Clone(otherRoom)
			span.Meet(given, other)
			span.Meet(other, given)
			span.In(given, other)
			span.In(other, given)
			if !slices.Equal(otherRoom, otherKept) {
				t.Fatalf("changed: %#v", other)
			}
		}
		span.Meet(given, given)
		span.In(given, given)
		span.Has(given, num(5))
		span.Has(given, text("a"))
		span.Preds("a", given)
		if !slices.Equal(room, kept) || !same(given, a) {
			t.Fatalf("changed: %#v", a)
		}
	}
}

// spoil overwrites a list and its spare room.
func spoil(l []api.Value) {
	l = l[:cap(l)]
	for k := range l {
		l[k] = api.Value{Kind: 99}
	}
}

// P7.5: what is answered is new memory, Not too, and nothing is kept.
func TestAnswersAreNew(t *testing.T) {
	all := spans()
	for _, a := range all {
		for k := 0; k < len(all); k += 7 {
			for _, pair := range [][2]api.Span{{a, all[k]}, {all[k], a}, {a, a}, {a, span.All()}, {span.All(), a}} {
				x, roomX := padded(pair[0])
				y, roomY := padded(pair[1])
				keptX, keptY := slices.Clone(roomX), slices.Clone(roomY)
				want := span.Meet(pair[0], pair[1])
				got, again := span.Meet(x, y), span.Meet(x, y)
				spoil(got.Not)
				if !slices.Equal(roomX, keptX) || !slices.Equal(roomY, keptY) || !same(again, want) {
					t.Fatalf("shared: %#v", pair)
				}
				spoil(x.Not)
				spoil(y.Not)
				check(t, pair, again, want)
			}
		}
		given, room := padded(a)
		kept := slices.Clone(room)
		l, again := span.Preds("a", given), span.Preds("a", given)
		want := slices.Clone(again)
		for k := range l[:cap(l)] {
			l[:cap(l)][k] = api.Pred{Op: 99}
		}
		if !slices.Equal(room, kept) || !slices.Equal(again, want) {
			t.Fatalf("shared: %#v", a)
		}
		spoil(given.Not)
		if !slices.Equal(again, want) {
			t.Fatalf("shared: %#v", a)
		}
	}
	for _, p := range rights() {
		one, want := span.Of(p), span.Of(p)
		spoil(one.Not)
		check(t, p, span.Of(p), want)
	}
}

// strange tells spans that are no set's.
func strange() []api.Span {
	out := []api.Span{}
	for _, kind := range []int{api.MinInt, -1, 0, 1, 2, 3, 4, 5, 257, api.MaxInt} {
		for _, not := range [][]api.Value{nil, nums(5, 3, 3, api.MinInt, api.MaxInt), texts("b", "", "a\x00", "a", "a", repeated(100)), wrongValues(), append(texts(zeros(64)), boolean(1), num(0))} {
			out = append(out,
				api.Span{Kind: kind, Not: not},
				api.Span{Kind: kind, Lo: 9, Hi: 3, From: "b", To: "a", Not: not},
				api.Span{Kind: kind, Lo: api.MaxInt, Hi: api.MinInt, From: "a", To: "a", Open: true, Not: not},
				api.Span{Kind: kind, Lo: api.MinInt, Hi: api.MinInt, From: zeros(64), To: "", Not: not},
				api.Span{Kind: kind, Lo: api.MaxInt, Hi: api.MaxInt, From: repeated(200), Open: true, Not: not},
				api.Span{Kind: kind, Lo: api.MinInt, Hi: api.MaxInt, To: zeros(300), Not: not},
			)
		}
	}
	return out
}

// W1: of spans that are no set's, that each call ends is all that is asked.
func TestStrangeSpans(t *testing.T) {
	all := append(strange(), none(), span.All(), ints(3, 9, 5), open("", "a"), ahead("a", "b"), bools(0, 1))
	for _, a := range all {
		for _, b := range all {
			span.Meet(a, b)
			span.In(a, b)
		}
		for _, v := range append(wrongValues(), num(5), text(""), text("a"), boolean(0)) {
			span.Has(a, v)
		}
		for _, name := range []string{"", "a", repeated(17)} {
			span.Preds(name, a)
		}
	}
}
