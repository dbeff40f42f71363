package filter_test

import (
	"math/rand"
	"slices"
	"strings"
	"testing"

	"rosette/api"
	"rosette/event"
	"rosette/filter"
	"rosette/pred"
)

// smallPreds tells predicates of one name that stand close together: of ints, bools and texts, and OpExists.
func smallPreds(name string) []api.Pred {
	out := row(exists(name))
	for _, side := range []any{3, 4, api.MaxInt, boolean(0), "", "a", "a\x00"} {
		for op := api.OpEq; op <= api.OpGe; op++ {
			out = append(out, ask(name, op, side))
		}
	}
	return append(out, ask(name, api.OpPrefix, ""), ask(name, api.OpPrefix, "a"), ask(name, api.OpPrefix, "\xff"))
}

// smallValues tells values among which each two sets that rows of smallPreds tell differ, if they differ, and of each that is not empty there is one.
func smallValues() []api.Value {
	out := []api.Value{boolean(0), boolean(1)}
	for _, n := range []int{api.MinInt, 2, 3, 4, 5, api.MaxInt - 1, api.MaxInt} {
		out = append(out, num(n))
	}
	for _, s := range []string{"", "\x00", "a", "a\x00", "a\x00\x00", "ab", "b", "\xff", "\xff\x00"} {
		out = append(out, text(s))
	}
	return out
}

// smallEvents tells right events of the attributes a and b, or of one of them, or of none.
func smallEvents() [][]api.Attr {
	out := [][]api.Attr{{}}
	for _, v := range smallValues() {
		out = append(out, []api.Attr{attr("a", v)}, []api.Attr{attr("b", v)})
		for _, w := range smallValues() {
			out = append(out, []api.Attr{attr("a", v), attr("b", w)})
		}
	}
	return out
}

// meeting tells which of the events meet f, asked predicate by predicate.
func meeting(f []api.Pred, events [][]api.Attr) []bool {
	out := make([]bool, len(events))
	for k, e := range events {
		out[k] = !slices.ContainsFunc(f, func(p api.Pred) bool { return !pred.Meets(p, e) })
	}
	return out
}

// smallFilters tells filters over a and b: of no predicate, of one, of two of one name, and many that are drawn.
func smallFilters() [][]api.Pred {
	out := [][]api.Pred{{}}
	both := joined(smallPreds("a"), smallPreds("b"))
	for _, p := range both {
		out = append(out, row(p))
	}
	draw := rand.New(rand.NewSource(80))
	for len(out) < 450 {
		f := []api.Pred{}
		for range 2 + draw.Intn(4) {
			f = append(f, both[draw.Intn(len(both))])
		}
		// Most rows of several are void; some of these are enough.
		if _, e := filter.Norm(f); e == api.OK || draw.Intn(10) == 0 {
			out = append(out, f)
		}
	}
	return out
}

// against holds Covers and Crosses of two filters against the events that meet them.
func against(t *testing.T, f, g []api.Pred, metF, metG []bool) {
	t.Helper()
	covers, crosses := true, false
	for k := range metF {
		covers = covers && (metF[k] || !metG[k])
		crosses = crosses || metF[k] && metG[k]
	}
	if filter.Covers(f, g) != covers {
		t.Errorf("Covers of\n%#v\n%#v: %v", f, g, !covers)
	}
	if filter.Crosses(f, g) != crosses {
		t.Errorf("Crosses of\n%#v\n%#v: %v", f, g, !crosses)
	}
}

// P8.3, P8.7: each filter against each, by the events that meet them.
func TestEachAgainstEach(t *testing.T) {
	events, filters := smallEvents(), smallFilters()
	for _, e := range events {
		if !event.Right(e) {
			t.Fatalf("%#v is no right event", e)
		}
	}
	met := [][]bool{}
	for _, f := range filters {
		met = append(met, meeting(f, events))
	}
	for k, f := range filters {
		for m, g := range filters {
			against(t, f, g, met[k], met[m])
		}
	}
}

// P8.7: two filters are met by the same events just if Norm tells the same of them.
func TestSameEventsSameNorm(t *testing.T) {
	events, filters := smallEvents(), smallFilters()
	type told struct {
		one []api.Pred
		err api.Errno
		met []bool
	}
	all, equal := []told{}, 0
	for _, f := range filters {
		one, err := filter.Norm(f)
		all = append(all, told{one, err, meeting(f, events)})
	}
	for k, x := range all {
		for m, y := range all {
			same := x.err == y.err && slices.Equal(x.one, y.one)
			if same != slices.Equal(x.met, y.met) {
				t.Errorf("of\n%#v\n%#v Norm tells the same: %v", filters[k], filters[m], same)
			}
			if both := filter.Covers(filters[k], filters[m]) && filter.Covers(filters[m], filters[k]); both != same {
				t.Errorf("of\n%#v\n%#v each covers the other: %v", filters[k], filters[m], both)
			}
			if same && k != m {
				equal++
			}
		}
		if x.err != api.OK && x.err != api.ErrVoid || (x.err == api.ErrVoid) != !slices.Contains(x.met, true) {
			t.Errorf("Norm of %#v: %v", filters[k], x.err)
		}
	}
	if equal < 100 {
		t.Error("too few equal filters:", equal)
	}
}

// P8.3: what covers what, and not the other way round, written out.
func TestCovers(t *testing.T) {
	for _, x := range []struct{ wide, narrow []api.Pred }{
		{row(), row(exists("a"))}, {row(), each(24, api.OpEq, 0)}, {row(exists("a")), row(ask("a", api.OpNe, 3))}, {row(exists("a")), row(exists("a"), exists("b"))},
		{row(ask("a", api.OpGt, 0)), row(ask("a", api.OpGt, 3), ask("b", api.OpEq, 1))}, {row(ask("a", api.OpGt, 0)), row(ask("a", api.OpGt, 1))}, {row(ask("a", api.OpNe, 3)), row(ask("a", api.OpGt, 3))}, {row(ask("a", api.OpNe, 3)), row(ask("a", api.OpEq, 4))}, {row(ask("a", api.OpNe, 3)), row(ask("a", api.OpNe, 4), ask("a", api.OpNe, 3))},
		{row(ask("a", api.OpPrefix, "x")), row(ask("a", api.OpPrefix, "xy"))}, {row(ask("a", api.OpPrefix, "")), row(ask("a", api.OpGt, ""))}, {row(ask("a", api.OpGe, "x")), row(ask("a", api.OpPrefix, "x"))}, {row(ask("a", api.OpGe, boolean(0))), row(ask("a", api.OpEq, boolean(1)))},
		{row(ask("a", api.OpGt, 0), exists("b")), row(exists("c"), ask("b", api.OpEq, "x"), ask("a", api.OpEq, 1))}, {each(23, api.OpGt, 0), each(24, api.OpGt, 0)}, {each(24, api.OpGt, 0), each(24, api.OpGt, 1)}, {without("a", 23), without("a", 24)},
		// Filters whose one form has more than 24 are held against others as all are.
		{each(13, api.OpPrefix, "x"), each(13, api.OpPrefix, "xy")}, {each(24, api.OpPrefix, "x"), each(24, api.OpPrefix, "xy")}, {each(24, api.OpPrefix, "x"), each(24, api.OpEq, "x")}, {row(), each(24, api.OpPrefix, "x")}, {each(20, api.OpPrefix, "x"), each(21, api.OpPrefix, "x")},
	} {
		if !filter.Covers(x.wide, x.narrow) || filter.Covers(x.narrow, x.wide) || !filter.Covers(x.wide, x.wide) || !filter.Covers(x.narrow, x.narrow) {
			t.Errorf("Covers of\n%#v\n%#v", x.wide, x.narrow)
		}
		if !filter.Covers(turned(x.wide), turned(x.narrow)) || filter.Covers(turned(x.narrow), turned(x.wide)) {
			t.Errorf("Covers, turned round, of\n%#v\n%#v", x.wide, x.narrow)
		}
	}
	// Neither covers the other.
	for _, x := range [][2][]api.Pred{
		{row(exists("a")), row(exists("b"))}, {row(exists("a")), row(ask("b", api.OpEq, 1))}, {row(ask("a", api.OpGt, 3)), row(ask("a", api.OpLt, 9))}, {row(ask("a", api.OpEq, 1)), row(ask("a", api.OpEq, boolean(1)))}, {row(ask("a", api.OpNe, 1)), row(ask("a", api.OpNe, "a"))}, {row(ask("a", api.OpNe, 3)), row(ask("a", api.OpNe, 4))},
		{row(ask("a", api.OpGt, 3)), row(ask("a", api.OpGt, 0), exists("b"))}, {row(ask("a", api.OpGt, 0), ask("b", api.OpGt, 3)), row(ask("a", api.OpGt, 3), ask("b", api.OpGt, 0))}, {each(24, api.OpGt, 0), row(exists("a"))}, {each(24, api.OpGt, 0), without("a", 24)},
	} {
		if filter.Covers(x[0], x[1]) || filter.Covers(x[1], x[0]) {
			t.Errorf("Covers of\n%#v\n%#v", x[0], x[1])
		}
	}
	// Equal ones, told otherwise.
	for _, x := range [][2][]api.Pred{
		{row(ask("a", api.OpLt, 6)), row(ask("a", api.OpLe, 5))}, {row(ask("a", api.OpPrefix, "x")), row(ask("a", api.OpLt, "y"), ask("a", api.OpGe, "x"))}, {row(exists("a"), ask("a", api.OpEq, 1)), row(ask("a", api.OpEq, 1))}, {row(exists("a"), exists("b")), row(exists("b"), exists("a"), exists("b"))}, {row(ask("a", api.OpNe, boolean(0))), row(ask("a", api.OpEq, boolean(1)))}, {slices.Repeat(row(exists("a")), 24), row(exists("a"))},
	} {
		if !filter.Covers(x[0], x[1]) || !filter.Covers(x[1], x[0]) {
			t.Errorf("Covers of\n%#v\n%#v", x[0], x[1])
		}
	}
}

// P8.3: what no event meets is covered by all, and covers itself alone; it crosses nothing.
func TestVoidAgainstOthers(t *testing.T) {
	others := [][]api.Pred{{}, row(exists("a")), row(exists("b")), row(ask("a", api.OpEq, 1)), row(ask("b", api.OpPrefix, "x"), exists("a")), each(24, api.OpEq, 0), each(24, api.OpPrefix, "x"), without("a", 24)}
	for _, x := range voids() {
		for _, name := range []string{"a", "b", "A"} {
			for _, void := range [][]api.Pred{named(name, x), joined(named(name, x), row(exists("c"))), joined(row(ask("\x00", api.OpEq, 1)), named(name, x))} {
				for _, f := range others {
					if !filter.Covers(f, void) || filter.Covers(void, f) || filter.Crosses(f, void) || filter.Crosses(void, f) {
						t.Errorf("%#v\nagainst %#v", void, f)
					}
				}
				for _, y := range voids() {
					if !filter.Covers(void, y) || !filter.Covers(y, void) || filter.Crosses(void, y) {
						t.Errorf("%#v\nagainst %#v, which is void too", void, y)
					}
				}
			}
		}
	}
}

// P8.3: filters with a predicate that is not right, or with more than 24, neither cover nor cross, nor are they covered.
func TestOthersAreFalse(t *testing.T) {
	void := row(ask("a", api.OpLt, ""))
	fine := [][]api.Pred{{}, row(exists("a")), row(ask("a", api.OpEq, 1)), void, each(24, api.OpEq, 0)}
	bad := [][]api.Pred{each(25, api.OpEq, 0), slices.Repeat(row(exists("a")), 25), slices.Repeat(void, 25), without("a", 25), joined(each(24, api.OpEq, 0), void), slices.Repeat(row(exists("a")), 256+1)}
	for _, p := range wrongs() {
		bad = append(bad, row(p), row(exists("a"), p), row(p, exists("a")), joined(void, row(p)), joined(row(p), void), row(p, p), joined(each(23, api.OpEq, 0), row(p)))
	}
	for _, f := range bad {
		for _, g := range append(slices.Clone(fine), f, bad[0], row(api.Pred{})) {
			if filter.Covers(f, g) || filter.Covers(g, f) || filter.Crosses(f, g) || filter.Crosses(g, f) {
				t.Errorf("%#v\nagainst %#v", f, g)
			}
		}
	}
	// 24 are still fine.
	if f := slices.Repeat(row(exists("a")), 24); !filter.Covers(f, f) || !filter.Crosses(f, f) {
		t.Error("24 predicates")
	}
}

// P8.3: what crosses what, and what does not, written out, either way round.
func TestCrosses(t *testing.T) {
	for _, x := range []struct {
		f, g []api.Pred
		want bool
	}{
		{row(), row(), true}, {row(), row(exists("a")), true}, {row(exists("a")), row(exists("b")), true}, {row(exists("a")), row(ask("a", api.OpEq, "x")), true}, {row(ask("a", api.OpEq, 1)), row(ask("b", api.OpEq, 2)), true},
		{row(ask("a", api.OpGt, 3)), row(ask("a", api.OpLt, 5)), true}, {row(ask("a", api.OpGt, 3)), row(ask("a", api.OpLt, 4)), false}, {row(ask("a", api.OpGe, 3)), row(ask("a", api.OpLe, 3)), true}, {row(ask("a", api.OpEq, 1)), row(ask("a", api.OpNe, 1)), false}, {row(ask("a", api.OpEq, 1)), row(ask("a", api.OpEq, boolean(1))), false}, {row(ask("a", api.OpNe, 1)), row(ask("a", api.OpNe, "a")), false},
		{row(ask("a", api.OpPrefix, "x")), row(ask("a", api.OpPrefix, "xy")), true}, {row(ask("a", api.OpPrefix, "xz")), row(ask("a", api.OpPrefix, "xy")), false}, {row(ask("a", api.OpPrefix, "x")), row(ask("a", api.OpGe, "y")), false}, {row(ask("a", api.OpGt, "x")), row(ask("a", api.OpLt, "x\x00")), false}, {row(ask("a", api.OpGt, "x")), row(ask("a", api.OpLe, "x\x00")), true}, {row(ask("a", api.OpNe, boolean(0))), row(ask("a", api.OpNe, boolean(1))), false},
		{row(ask("a", api.OpGt, 3), ask("b", api.OpEq, 1)), row(ask("a", api.OpLt, 9), ask("b", api.OpEq, 2)), false}, {row(ask("a", api.OpGt, 3), ask("b", api.OpEq, 1)), row(ask("a", api.OpLt, 9), ask("c", api.OpEq, 2)), true}, {row(ask("a", api.OpGe, 3), ask("a", api.OpLe, 4)), row(ask("a", api.OpNe, 3), ask("a", api.OpNe, 4)), false}, {row(ask("a", api.OpGe, 3), ask("a", api.OpLe, 5)), row(ask("a", api.OpNe, 3), ask("a", api.OpNe, 4)), true},
		// More than 24 predicates in both, and more than 24 in what both tell, but few names.
		{without("a", 24), named("a", without("a", 24)), true}, {without("a", 24), without("b", 24), true}, {without("a", 24), row(ask("a", api.OpEq, 230)), false}, {without("a", 24), row(ask("a", api.OpEq, 240)), true}, {each(24, api.OpPrefix, "x"), each(24, api.OpPrefix, "xy"), true}, {each(24, api.OpPrefix, "x"), each(24, api.OpPrefix, "y"), false}, {each(24, api.OpGt, 1), each(24, api.OpLt, 3), true},
	} {
		if filter.Crosses(x.f, x.g) != x.want || filter.Crosses(x.g, x.f) != x.want || filter.Crosses(turned(x.f), turned(x.g)) != x.want {
			t.Errorf("Crosses of\n%#v\n%#v: %v", x.f, x.g, !x.want)
		}
	}
}

// P8.3: 24 names in all are crossed, however they are shared, and no more.
func TestCrossesOfManyNames(t *testing.T) {
	for n := range 25 {
		for m := range 25 {
			f, apart := each(n, api.OpEq, 0), []api.Pred{}
			for k := range m {
				apart = append(apart, ask(letter(30+k), api.OpEq, 0))
			}
			if got := filter.Crosses(f, apart); got != (n+m <= 24) {
				t.Errorf("Crosses of %d names and %d others: %v", n, m, got)
			}
			// m names of which some are f's.
			shared := each(m, api.OpGe, 0)
			if !filter.Crosses(f, shared) || !filter.Crosses(shared, f) {
				t.Errorf("Crosses of %d names and %d of the same", n, m)
			}
			if n == 24 {
				continue
			}
			mixed := append(slices.Clone(f), ask("z", api.OpEq, 0))
			if got := filter.Crosses(mixed, shared); got != (max(n, m)+1 <= 24) {
				t.Errorf("Crosses of %d names, and one more, and %d of the same: %v", n, m, got)
			}
		}
	}
	// An event that meets both is right just if it has no more than 24 names.
	f := each(24, api.OpEq, 0)
	e := []api.Attr{}
	for _, p := range f {
		e = append(e, attr(p.Name, num(0)))
	}
	if !event.Right(e) || !filter.Meets(f, e) || event.Right(append(e, attr("z", num(0)))) {
		t.Error("24 attributes")
	}
}

// P8.3: longer texts, at the limit of what may be asked.
func TestLongTextsAgainstOthers(t *testing.T) {
	long := repeated(32)
	for _, x := range []struct {
		f, g            []api.Pred
		covers, crosses bool
	}{
		{row(ask("a", api.OpGt, long)), row(ask("a", api.OpPrefix, long), ask("a", api.OpNe, long)), true, true},
		{row(ask("a", api.OpLe, long)), row(ask("a", api.OpGt, long)), false, false},
		{row(ask("a", api.OpNe, long)), row(ask("a", api.OpGt, long)), true, true},
		{row(ask("a", api.OpEq, long)), row(ask("a", api.OpGe, long), ask("a", api.OpLe, long)), true, true},
		{row(ask("a", api.OpLt, long)), row(ask("a", api.OpEq, repeated(31))), true, true},
		{row(ask("a", api.OpPrefix, strings.Repeat("\xff", 32))), row(ask("a", api.OpGt, strings.Repeat("\xff", 32))), true, true},
	} {
		if filter.Covers(x.f, x.g) != x.covers || filter.Crosses(x.f, x.g) != x.crosses {
			t.Errorf("%#v\nagainst %#v", x.f, x.g)
		}
	}
}
