package filter_test

import (
	"math/rand"
	"slices"
	"strings"
	"testing"

	"rosette/api"
	"rosette/filter"
	"rosette/pred"
	"rosette/span"
)

func num(n int) api.Value { return api.Value{Kind: api.KindInt, Int: n} }

func text(s string) api.Value { return api.Value{Kind: api.KindText, Text: s} }

func boolean(n int) api.Value { return api.Value{Kind: api.KindBool, Int: n} }

// ask tells a predicate against an int, a text, a value, or nothing.
func ask(name string, op int, side any) api.Pred {
	p := api.Pred{Name: name, Op: op}
	switch x := side.(type) {
	case int:
		p.Value = num(x)
	case string:
		p.Value = text(x)
	case api.Value:
		p.Value = x
	}
	return p
}

// exists tells the predicate that asks for no more than an attribute of that name.
func exists(name string) api.Pred { return api.Pred{Name: name, Op: api.OpExists} }

func attr(name string, v api.Value) api.Attr { return api.Attr{Name: name, Value: v} }

func repeated(n int) string { return strings.Repeat("x", n) }

// row tells a filter.
func row(l ...api.Pred) []api.Pred { return l }

// letter tells one of many names, which rise.
func letter(k int) string { return string([]byte{byte('A' + k)}) }

// each tells predicates of so many names, all of that Op, and against that.
func each(n, op int, side any) []api.Pred {
	out := []api.Pred{}
	for k := range n {
		out = append(out, ask(letter(k), op, side))
	}
	return out
}

// without tells the filter of one name that asks for all ints but so many.
func without(name string, n int) []api.Pred {
	out := []api.Pred{}
	for k := range n {
		out = append(out, ask(name, api.OpNe, 10*k))
	}
	return out
}

// joined tells a filter of the predicates of several.
func joined(l ...[]api.Pred) []api.Pred { return slices.Concat(l...) }

// turned tells a filter in the other order.
func turned(f []api.Pred) []api.Pred {
	out := slices.Clone(f)
	slices.Reverse(out)
	return out
}

// shuffled tells a filter in an order that is drawn.
func shuffled(draw *rand.Rand, f []api.Pred) []api.Pred {
	out := slices.Clone(f)
	draw.Shuffle(len(out), func(k, m int) { out[k], out[m] = out[m], out[k] })
	return out
}

// wrongs tells predicates that are not right, of each fault.
func wrongs() []api.Pred {
	return []api.Pred{
		{}, {Name: "a"}, {Op: api.OpExists}, exists(repeated(17)), ask("", api.OpEq, 1),
		ask("a", 0, 1), ask("a", 9, 1), ask("a", -1, 1), ask("a", 257, 1), ask("a", api.OpExists, 1), ask("a", api.OpExists, ""),
		ask("a", api.OpEq, nil), ask("a", api.OpEq, boolean(2)), ask("a", api.OpEq, api.Value{Kind: 4}), ask("a", api.OpEq, api.Value{Kind: api.KindInt, Text: "b"}),
		ask("a", api.OpPrefix, 1), ask("a", api.OpPrefix, boolean(1)), ask("a", api.OpNe, repeated(33)), ask("a", api.OpPrefix, repeated(64)), ask("a", api.OpLt, repeated(65)),
	}
}

// voids tells filters of right predicates that no event meets: each of one name.
func voids() [][]api.Pred {
	return [][]api.Pred{
		row(ask("a", api.OpLt, api.MinInt)), row(ask("a", api.OpGt, api.MaxInt)), row(ask("a", api.OpLt, "")), row(ask("a", api.OpLt, boolean(0))), row(ask("a", api.OpGt, boolean(1))),
		row(ask("a", api.OpEq, 1), ask("a", api.OpEq, 2)), row(ask("a", api.OpEq, 1), ask("a", api.OpNe, 1)), row(ask("a", api.OpLt, 3), ask("a", api.OpGt, 3)), row(ask("a", api.OpGt, 3), ask("a", api.OpLt, 4)), row(ask("a", api.OpGe, 3), ask("a", api.OpLe, 4), ask("a", api.OpNe, 3), ask("a", api.OpNe, 4)),
		row(ask("a", api.OpNe, boolean(0)), ask("a", api.OpNe, boolean(1))), row(ask("a", api.OpEq, boolean(0)), ask("a", api.OpEq, 0)), row(ask("a", api.OpNe, 1), ask("a", api.OpNe, "a")), row(ask("a", api.OpPrefix, ""), ask("a", api.OpGe, api.MinInt)),
		row(ask("a", api.OpPrefix, "ab"), ask("a", api.OpPrefix, "ac")), row(ask("a", api.OpPrefix, "ab"), ask("a", api.OpLt, "ab")), row(ask("a", api.OpPrefix, "a\xff"), ask("a", api.OpGe, "b")), row(ask("a", api.OpGt, "a"), ask("a", api.OpLt, "a\x00")), row(ask("a", api.OpLe, "\x00"), ask("a", api.OpNe, ""), ask("a", api.OpNe, "\x00")),
	}
}

// named tells a filter whose predicates are all of another name.
func named(name string, f []api.Pred) []api.Pred {
	out := slices.Clone(f)
	for k := range out {
		out[k].Name = name
	}
	return out
}

// expected tells what Norm of f is by the chapter's words.
func expected(f []api.Pred) ([]api.Pred, api.Errno) {
	if len(f) > 24 {
		return nil, api.ErrLimit
	}
	if slices.ContainsFunc(f, func(p api.Pred) bool { return !pred.Right(p) }) {
		return nil, api.ErrArg
	}
	names := []string{}
	for _, p := range f {
		names = append(names, p.Name)
	}
	slices.Sort(names)
	out := []api.Pred{}
	for _, name := range slices.Compact(names) {
		a := span.All()
		for _, p := range f {
			if p.Name == name {
				a = span.Meet(span.Of(p), a)
			}
		}
		if a.Kind == api.SpanNone {
			return nil, api.ErrVoid
		}
		out = append(out, span.Preds(name, a)...)
	}
	if len(out) > 24 {
		return nil, api.ErrLimit
	}
	return out, api.OK
}

// mustNorm holds that Norm of f is this.
func mustNorm(t *testing.T, f, want []api.Pred, e api.Errno) {
	t.Helper()
	if got, err := filter.Norm(f); !slices.Equal(got, want) || err != e {
		t.Errorf("Norm of %#v:\n%#v, %v, and not\n%#v, %v", f, got, err, want, e)
	}
}

// mustRefuse holds that Norm tells of f this error alone.
func mustRefuse(t *testing.T, f []api.Pred, e api.Errno) {
	t.Helper()
	mustNorm(t, f, nil, e)
	if filter.Right(f) {
		t.Errorf("%#v is right", f)
	}
}

// P8.1: the one form of filters of one name, written out.
func TestNormOfOneName(t *testing.T) {
	const least, most = api.MinInt, api.MaxInt
	for _, x := range []struct{ f, want []api.Pred }{
		{row(), row()},
		// The chapter's example.
		{row(ask("a", api.OpLt, 6), ask("a", api.OpGt, 3)), row(ask("a", api.OpGe, 4), ask("a", api.OpLe, 5))},
		{row(ask("a", api.OpLt, 6)), row(ask("a", api.OpLe, 5))}, {row(ask("a", api.OpGt, 6)), row(ask("a", api.OpGe, 7))}, {row(ask("a", api.OpNe, 6)), row(ask("a", api.OpNe, 6))}, {row(ask("a", api.OpEq, 6)), row(ask("a", api.OpEq, 6))},
		{row(ask("a", api.OpLe, most)), row(ask("a", api.OpGe, least))}, {row(ask("a", api.OpNe, least)), row(ask("a", api.OpGe, least+1))}, {row(ask("a", api.OpNe, most)), row(ask("a", api.OpLe, most-1))},
		{row(ask("a", api.OpGe, 3), ask("a", api.OpLe, 5), ask("a", api.OpNe, 4)), row(ask("a", api.OpGe, 3), ask("a", api.OpLe, 5), ask("a", api.OpNe, 4))},
		{row(ask("a", api.OpGe, 3), ask("a", api.OpLe, 5), ask("a", api.OpNe, 3), ask("a", api.OpNe, 4)), row(ask("a", api.OpEq, 5))},
		{row(ask("a", api.OpNe, 5), ask("a", api.OpNe, -1), ask("a", api.OpNe, 3)), row(ask("a", api.OpNe, -1), ask("a", api.OpNe, 3), ask("a", api.OpNe, 5))},
		{row(ask("a", api.OpNe, 5), ask("a", api.OpNe, 9), ask("a", api.OpLt, 9)), row(ask("a", api.OpLe, 8), ask("a", api.OpNe, 5))},
		{row(ask("a", api.OpLe, boolean(1))), row(ask("a", api.OpGe, boolean(0)))}, {row(ask("a", api.OpNe, boolean(1))), row(ask("a", api.OpEq, boolean(0)))}, {row(ask("a", api.OpGt, boolean(0))), row(ask("a", api.OpEq, boolean(1)))},
		{row(ask("a", api.OpPrefix, "")), row(ask("a", api.OpGe, ""))}, {row(ask("a", api.OpPrefix, "b")), row(ask("a", api.OpGe, "b"), ask("a", api.OpLt, "c"))}, {row(ask("a", api.OpPrefix, "\xff")), row(ask("a", api.OpGe, "\xff"))}, {row(ask("a", api.OpPrefix, "b\xff")), row(ask("a", api.OpGe, "b\xff"), ask("a", api.OpLt, "c"))},
		{row(ask("a", api.OpGt, "b"), ask("a", api.OpLe, "c")), row(ask("a", api.OpGt, "b"), ask("a", api.OpLe, "c"))}, {row(ask("a", api.OpGe, "b\x00"), ask("a", api.OpLt, "c\x00")), row(ask("a", api.OpGt, "b"), ask("a", api.OpLe, "c"))},
		{row(ask("a", api.OpPrefix, "b"), ask("a", api.OpNe, "b"), ask("a", api.OpNe, "bb"), ask("a", api.OpNe, "c")), row(ask("a", api.OpGt, "b"), ask("a", api.OpLt, "c"), ask("a", api.OpNe, "bb"))},
		{row(exists("a")), row(exists("a"))}, {row(exists("a"), exists("a")), row(exists("a"))}, {row(exists("a"), ask("a", api.OpNe, 5)), row(ask("a", api.OpNe, 5))}, {row(ask("a", api.OpEq, "b"), exists("a")), row(ask("a", api.OpEq, "b"))}, {row(ask("a", api.OpGe, boolean(0)), exists("a")), row(ask("a", api.OpGe, boolean(0)))},
	} {
		for _, name := range []string{"a", "\x00", "\xff\xff", strings.Repeat("n", 16)} {
			f, want := named(name, x.f), named(name, x.want)
			mustNorm(t, f, want, api.OK)
			mustNorm(t, turned(f), want, api.OK)
			mustNorm(t, joined(f, f), want, api.OK)
			mustNorm(t, joined(f, turned(f)), want, api.OK)
			mustNorm(t, want, want, api.OK)
		}
	}
	mustNorm(t, nil, nil, api.OK)
}

// P8.1: names rise byte by byte, wherever they stood.
func TestNormOfSeveralNames(t *testing.T) {
	names := []string{"\x00", "\x00\x00", "A", "B", "a", "a\x00", "aa", "ab", "b", "ba", "\x7f", "\x80", "\xc3\xa4", "\xff", "\xff\x00"}
	f, want := []api.Pred{}, []api.Pred{}
	for k, name := range names {
		f = append(f, ask(name, api.OpGt, k))
		want = append(want, ask(name, api.OpGe, k+1))
	}
	draw := rand.New(rand.NewSource(8))
	mustNorm(t, f, want, api.OK)
	mustNorm(t, turned(f), want, api.OK)
	for range 200 {
		mustNorm(t, shuffled(draw, f), want, api.OK)
	}
	mixed := row(ask("b", api.OpPrefix, "x"), ask("a", api.OpLt, 9), exists("c"), ask("a", api.OpGe, 3), ask("b", api.OpNe, "xy"), ask("a", api.OpNe, 5), exists("b"))
	want = row(ask("a", api.OpGe, 3), ask("a", api.OpLe, 8), ask("a", api.OpNe, 5), ask("b", api.OpGe, "x"), ask("b", api.OpLt, "y"), ask("b", api.OpNe, "xy"), exists("c"))
	for range 200 {
		mustNorm(t, shuffled(draw, mixed), want, api.OK)
		mustNorm(t, shuffled(draw, joined(mixed, mixed)), want, api.OK)
	}
}

// P8.1: how many predicates may be handed in, and how many may follow.
func TestNormLimits(t *testing.T) {
	for n := range 25 {
		f := each(n, api.OpEq, 0)
		mustNorm(t, turned(f), f, api.OK)
	}
	mustNorm(t, slices.Repeat(row(exists("a")), 24), row(exists("a")), api.OK)
	// More than 24 are refused, though what would follow has fewer, or one is wrong, or no event meets them.
	for _, f := range [][]api.Pred{
		each(25, api.OpEq, 0), each(26, api.OpEq, 0), each(100, api.OpEq, 0), slices.Repeat(row(exists("a")), 25),
		slices.Repeat(row(api.Pred{}), 25), append(each(24, api.OpEq, 0), api.Pred{}), append(row(api.Pred{}), each(24, api.OpEq, 0)...),
		slices.Repeat(row(ask("a", api.OpLt, "")), 25), append(each(24, api.OpEq, 0), ask("A", api.OpEq, 1)),
	} {
		mustRefuse(t, f, api.ErrLimit)
	}
	// A prefix tells two.
	prefixes := each(24, api.OpPrefix, "x")
	for n := range 25 {
		f := prefixes[:n]
		if n > 12 {
			mustRefuse(t, f, api.ErrLimit)
			continue
		}
		if got, err := filter.Norm(f); len(got) != 2*n || err != api.OK {
			t.Errorf("Norm of %d prefixes: %d predicates, %v", n, len(got), err)
		}
	}
	// 24 follow of 23, and of 24 of which some fall away; 25 of 24, or of 13.
	both := append(without("a", 22), ask("b", api.OpPrefix, "x"))
	mustNorm(t, both, joined(without("a", 22), row(ask("b", api.OpGe, "x"), ask("b", api.OpLt, "y"))), api.OK)
	mustNorm(t, append(both, exists("b")), joined(without("a", 22), row(ask("b", api.OpGe, "x"), ask("b", api.OpLt, "y"))), api.OK)
	mustRefuse(t, append(both, exists("c")), api.ErrLimit)
	mustRefuse(t, append(without("a", 23), ask("b", api.OpPrefix, "x")), api.ErrLimit)
	mustRefuse(t, append(without("a", 23), ask("A", api.OpPrefix, "x")), api.ErrLimit)
	mustRefuse(t, append(prefixes[:12:12], exists("b")), api.ErrLimit)
	if api.MaxPreds != 24 {
		t.Error("another limit")
	}
}

// P8.1: of a wrong predicate, an empty span, and too many that follow, which is told first, wherever they stand.
func TestNormErrors(t *testing.T) {
	fine := row(ask("a", api.OpGt, 5), exists("b"), ask("c", api.OpPrefix, "x"))
	many := each(13, api.OpPrefix, "x")
	for _, p := range wrongs() {
		wrong := row(p)
		for _, f := range [][]api.Pred{wrong, joined(wrong, wrong), joined(wrong, fine), joined(fine, wrong), joined(fine, wrong, fine), joined(many, wrong), joined(wrong, many), joined(each(23, api.OpEq, 0), wrong)} {
			mustRefuse(t, f, api.ErrArg)
		}
		for _, void := range voids() {
			for _, name := range []string{"a", "b", "\xff"} {
				f := named(name, void)
				for _, g := range [][]api.Pred{joined(f, wrong), joined(wrong, f), joined(f, wrong, f), joined(fine, f, wrong), joined(many, f, wrong)} {
					mustRefuse(t, g, api.ErrArg)
				}
			}
		}
	}
	for _, void := range voids() {
		for _, name := range []string{"a", "b", "c", "\x00", "\xff"} {
			f := named(name, void)
			for _, g := range [][]api.Pred{f, turned(f), joined(f, f), joined(fine, f), joined(f, fine), joined(f, row(exists(name))), joined(many, f), joined(f, many), joined(each(12, api.OpEq, 0), f)} {
				mustRefuse(t, g, api.ErrVoid)
			}
		}
	}
}

// P8.1: many filters against the chapter's words.
func TestNormOfMany(t *testing.T) {
	draw := rand.New(rand.NewSource(81))
	told := map[api.Errno]int{}
	for range 20000 {
		f := drawn(draw, 26)
		want, e := expected(f)
		told[e]++
		mustNorm(t, f, want, e)
		mustNorm(t, shuffled(draw, f), want, e)
	}
	for _, e := range []api.Errno{api.OK, api.ErrArg, api.ErrVoid, api.ErrLimit} {
		if told[e] < 100 {
			t.Errorf("%v is told %d times only", e, told[e])
		}
	}
}

// drawn tells a filter of at most so many predicates: mostly right ones, mostly of one kind a name, which events may meet.
func drawn(draw *rand.Rand, most int) []api.Pred {
	names := []string{"a", "b", "aa", "\x00", "c", "d", "e", "f"}
	names = names[:1+draw.Intn(len(names))]
	out := []api.Pred{}
	for range draw.Intn(most + 1) {
		k := draw.Intn(len(names))
		p := api.Pred{Name: names[k], Op: 1 + draw.Intn(7)}
		if p.Op == api.OpEq && draw.Intn(8) > 0 {
			p.Op = api.OpNe
		}
		switch {
		case draw.Intn(12) == 0:
			p = exists(p.Name)
		case k%3 == 0 && p.Op != api.OpPrefix:
			p.Value = num(draw.Intn(12) - 6)
			switch p.Op {
			case api.OpLt, api.OpLe:
				p.Value.Int += 15
			case api.OpGt, api.OpGe:
				p.Value.Int -= 15
			}
		case k%3 == 2 && p.Op != api.OpPrefix && p.Op != api.OpNe && p.Op != api.OpEq:
			p.Value = boolean(draw.Intn(2))
		default:
			p.Value = text([]string{"", "\x00", "a", "ab", "ab\x00", "b", "\xff"}[draw.Intn(7)])
		}
		if draw.Intn(150) == 0 {
			l := wrongs()
			p = l[draw.Intn(len(l))]
		}
		out = append(out, p)
	}
	return out
}

// P8.2: what Norm tells is right; so is nothing that is not just that.
func TestRight(t *testing.T) {
	if !filter.Right(nil) || !filter.Right([]api.Pred{}) {
		t.Error("the empty filter is not right")
	}
	draw := rand.New(rand.NewSource(82))
	for range 5000 {
		f := drawn(draw, 20)
		one, err := filter.Norm(f)
		if want := err == api.OK && slices.Equal(one, f); filter.Right(f) != want {
			t.Errorf("Right of %#v: %v", f, !want)
		}
		if err != api.OK {
			continue
		}
		if !filter.Right(one) {
			t.Errorf("%#v is not right", one)
		}
		if other := turned(one); len(one) > 1 && filter.Right(other) {
			t.Errorf("%#v is right", other)
		}
		for k := range one {
			twice := slices.Insert(slices.Clone(one), k, one[k])
			wrong := slices.Insert(slices.Clone(one), k, api.Pred{})
			here := slices.Insert(slices.Clone(one), k, exists(one[k].Name))
			for _, f := range [][]api.Pred{twice, wrong, here, append(slices.Clone(one), one[k])} {
				if filter.Right(f) {
					t.Errorf("%#v is right", f)
				}
			}
			// One less is the form of another filter, if that tells just itself.
			less := slices.Delete(slices.Clone(one), k, k+1)
			want, err := expected(less)
			if filter.Right(less) != (err == api.OK && slices.Equal(want, less)) {
				t.Errorf("Right of %#v", less)
			}
		}
	}
}

// P8.2: filters that are right, and such as are not, written out.
func TestRightOfSome(t *testing.T) {
	for _, f := range [][]api.Pred{
		row(exists("a")), row(exists("a"), exists("b")), row(ask("a", api.OpGe, 4), ask("a", api.OpLe, 5)), row(ask("a", api.OpGe, 4)), row(ask("a", api.OpLe, 5)), row(ask("a", api.OpNe, 4), ask("a", api.OpNe, 5)), row(ask("a", api.OpNe, 4)), row(ask("a", api.OpGe, api.MinInt)),
		row(ask("a", api.OpGe, boolean(0))), row(ask("a", api.OpEq, boolean(1))), row(ask("a", api.OpGe, "")), row(ask("a", api.OpGt, "")), row(ask("a", api.OpGe, "b"), ask("a", api.OpLt, "c")), row(ask("a", api.OpEq, "")), row(ask("a", api.OpEq, repeated(32))),
		row(ask("a", api.OpEq, 1), ask("aa", api.OpEq, 1), ask("b", api.OpEq, 1)), each(24, api.OpEq, 0), without("a", 24),
	} {
		if !filter.Right(f) {
			t.Errorf("%#v is not right", f)
		}
	}
	for _, f := range [][]api.Pred{
		row(exists("b"), exists("a")), row(exists("a"), exists("a")), row(ask("a", api.OpLe, 5), ask("a", api.OpGe, 4)), row(ask("a", api.OpGt, 4)), row(ask("a", api.OpLt, 4)), row(ask("a", api.OpNe, 5), ask("a", api.OpNe, 4)), row(ask("a", api.OpGe, 4), ask("a", api.OpLe, 4)), row(ask("a", api.OpLe, api.MaxInt)), row(ask("a", api.OpNe, api.MaxInt)), row(ask("a", api.OpGe, api.MaxInt)),
		row(ask("a", api.OpLe, boolean(1))), row(ask("a", api.OpNe, boolean(0))), row(ask("a", api.OpGe, boolean(1))), row(ask("a", api.OpPrefix, "")), row(ask("a", api.OpPrefix, "b")), row(ask("a", api.OpLe, "")), row(ask("a", api.OpNe, "")), row(ask("a", api.OpGe, "b\x00")), row(ask("a", api.OpLt, "b\x00")), row(ask("a", api.OpGe, "b"), ask("a", api.OpLe, "b")),
		row(exists("a"), ask("a", api.OpEq, 1)), row(ask("a", api.OpEq, 1), exists("a")), row(ask("aa", api.OpEq, 1), ask("a", api.OpEq, 1)), each(25, api.OpEq, 0), without("a", 25),
	} {
		if filter.Right(f) {
			t.Errorf("%#v is right", f)
		}
	}
	for _, p := range wrongs() {
		if filter.Right(row(p)) || filter.Right(row(exists("a"), p)) || filter.Right(row(p, exists("b"))) {
			t.Errorf("%#v is right", p)
		}
	}
	for _, f := range voids() {
		if filter.Right(f) {
			t.Errorf("%#v is right", f)
		}
	}
}

// P8.2: events that meet all predicates, all but one, and none.
func TestMeets(t *testing.T) {
	f := row(ask("a", api.OpGt, 5), ask("a", api.OpNe, 7), ask("b", api.OpPrefix, "x"), exists("c"))
	event := func(a, b, c api.Value) []api.Attr { return []api.Attr{attr("a", a), attr("b", b), attr("c", c)} }
	yes := boolean(1)
	for _, x := range []struct {
		e    []api.Attr
		want bool
	}{
		{event(num(6), text("xy"), yes), true}, {event(num(8), text("x"), num(0)), true}, {event(num(api.MaxInt), text("x"), text("")), true},
		{event(num(5), text("xy"), yes), false}, {event(num(7), text("xy"), yes), false}, {event(num(6), text("y"), yes), false}, {event(num(5), text("y"), yes), false}, {event(num(6), text("xy"), api.Value{}), false},
		{event(num(6), text("xy"), yes)[:2], false}, {event(num(6), text("xy"), yes)[1:], false}, {nil, false}, {[]api.Attr{}, false}, {[]api.Attr{attr("a", num(6)), attr("c", yes)}, false},
		{event(text("6"), text("xy"), yes), false}, {event(yes, text("xy"), yes), false}, {event(num(6), num(1), yes), false},
		// Whatever e is, the first attribute of a name counts, and more than 24 may stand there.
		{append(event(num(6), text("xy"), yes), attr("a", num(5))), true}, {append([]api.Attr{attr("a", num(5))}, event(num(6), text("xy"), yes)...), false},
		{append(slices.Repeat([]api.Attr{attr("d", num(1))}, 30), event(num(6), text("xy"), yes)...), true}, {[]api.Attr{attr("c", yes), attr("b", text("xy")), attr("a", num(6))}, true},
	} {
		if got := filter.Meets(f, x.e); got != x.want {
			t.Errorf("%#v meets: %v", x.e, got)
		}
		if got := filter.Meets(turned(f), x.e); got != x.want {
			t.Errorf("%#v meets, turned round: %v", x.e, got)
		}
		if !filter.Meets(nil, x.e) {
			t.Errorf("%#v does not meet the empty filter", x.e)
		}
		for _, p := range wrongs() {
			if filter.Meets(row(p), x.e) || filter.Meets(append(slices.Clone(f), p), x.e) || filter.Meets(append(row(p), f...), x.e) {
				t.Errorf("%#v meets %#v", x.e, p)
			}
		}
	}
	// Of more than 24 predicates too.
	long := without("a", 40)
	if !filter.Meets(long, []api.Attr{attr("a", num(5))}) || filter.Meets(long, []api.Attr{attr("a", num(390))}) || filter.Meets(long, nil) {
		t.Error("Meets of 40 predicates")
	}
}

// P8.2: Meets of many filters and events is what each predicate's Meets is.
func TestMeetsOfMany(t *testing.T) {
	draw := rand.New(rand.NewSource(83))
	count := [2]int{}
	for range 20000 {
		f := drawn(draw, 6)
		e := []api.Attr{}
		for _, name := range []string{"\x00", "a", "aa", "b", "c", "d", "e", "f"} {
			if draw.Intn(8) > 0 {
				e = append(e, attr(name, []api.Value{num(draw.Intn(9) - 4), text("ab"), text("b"), boolean(draw.Intn(2))}[draw.Intn(4)]))
			}
		}
		want := true
		for _, p := range f {
			want = want && pred.Meets(p, e)
		}
		if filter.Meets(f, e) != want {
			t.Errorf("Meets of %#v and %#v: %v", f, e, !want)
		}
		if want {
			count[1]++
		} else {
			count[0]++
		}
		// What Norm tells is met by the same events.
		if one, err := filter.Norm(f); err == api.OK && filter.Meets(one, e) != want || err == api.ErrVoid && want {
			t.Errorf("Meets of %#v and %#v: not as its one form", f, e)
		}
	}
	if count[0] < 1000 || count[1] < 1000 {
		t.Error("too few of one kind:", count)
	}
}
