package poset_test

import (
	"slices"
	"strings"
	"testing"

	"rosette/api"
	"rosette/filter"
	"rosette/poset"
)

func num(n int) api.Value { return api.Value{Kind: api.KindInt, Int: n} }

func text(s string) api.Value { return api.Value{Kind: api.KindText, Text: s} }

func boolean(n int) api.Value { return api.Value{Kind: api.KindBool, Int: n} }

func ask(name string, op int, v api.Value) api.Pred { return api.Pred{Name: name, Op: op, Value: v} }

// exists tells the predicate that asks for no more than an attribute of that name.
func exists(name string) api.Pred { return api.Pred{Name: name, Op: api.OpExists} }

// row tells a filter.
func row(l ...api.Pred) []api.Pred { return l }

// entry tells an entry of that Id and filter.
func entry(id int, f ...api.Pred) api.Entry { return api.Entry{Id: id, From: 1, Filter: f} }

// least tells the entry of that Id that asks for an a of n at least.
func least(id, n int) api.Entry { return entry(id, ask("a", api.OpGe, num(n))) }

// each tells predicates of so many names, all of that Op, and against that.
func each(n, op int, v api.Value) []api.Pred {
	out := []api.Pred{}
	for k := range n {
		out = append(out, ask(string([]byte{byte('A' + k)}), op, v))
	}
	return out
}

// without tells the filter that asks for all ints but so many.
func without(n int) []api.Pred {
	out := []api.Pred{}
	for k := range n {
		out = append(out, ask("a", api.OpNe, num(10*k)))
	}
	return out
}

// voids tells filters of right predicates that no event meets.
func voids() [][]api.Pred {
	return [][]api.Pred{
		row(ask("a", api.OpLt, num(api.MinInt))), row(ask("a", api.OpLt, text(""))), row(ask("a", api.OpGt, boolean(1))), row(ask("b", api.OpEq, num(1)), ask("b", api.OpEq, num(2))),
		row(ask("a", api.OpEq, num(1)), ask("a", api.OpEq, text("x"))), row(exists("A"), ask("a", api.OpPrefix, text("x")), ask("a", api.OpPrefix, text("y"))), append(without(23), ask("a", api.OpEq, num(0))),
	}
}

// wrongs tells filters that cover nothing, and are not covered: with a predicate that is not right, or with more than 24.
func wrongs() [][]api.Pred {
	return [][]api.Pred{
		row(api.Pred{}), row(exists("")), row(exists(strings.Repeat("n", 17))), row(ask("a", 0, num(1))), row(ask("a", 9, num(1))), row(ask("a", api.OpExists, num(1))), row(ask("a", api.OpPrefix, num(1))), row(ask("a", api.OpEq, boolean(2))), row(ask("a", api.OpEq, text(strings.Repeat("x", 33)))),
		row(exists("a"), api.Pred{}), row(api.Pred{}, exists("a")), row(ask("a", api.OpLt, text("")), api.Pred{}), slices.Repeat(row(exists("a")), 25), without(25), each(25, api.OpEq, num(0)), slices.Repeat(row(ask("a", api.OpLt, text(""))), 25),
	}
}

// equals tells pairs of filters that cover each other: the same one, and one told otherwise, right or not.
func equals() [][2][]api.Pred {
	return [][2][]api.Pred{
		{nil, nil}, {nil, {}}, {row(exists("a")), row(exists("a"))}, {without(24), without(24)}, {row(exists("a"), exists("b")), row(exists("b"), exists("a"), exists("b"))},
		{row(ask("a", api.OpGe, num(4))), row(ask("a", api.OpGt, num(3)))}, {row(ask("a", api.OpGe, text("x")), ask("a", api.OpLt, text("y"))), row(ask("a", api.OpPrefix, text("x")))}, {row(ask("a", api.OpEq, boolean(1))), row(ask("a", api.OpNe, boolean(0)))}, {row(ask("a", api.OpEq, num(1))), row(exists("a"), ask("a", api.OpEq, num(1)))}, {row(exists("a")), slices.Repeat(row(exists("a")), 24)},
		// Their one form has more than 24 predicates.
		{each(24, api.OpPrefix, text("x")), each(24, api.OpPrefix, text("x"))},
	}
}

// wider tells pairs of filters the first of which covers the second, and not the other way.
func wider() [][2][]api.Pred {
	return [][2][]api.Pred{
		{nil, row(exists("a"))}, {{}, row(ask("a", api.OpEq, num(1)))}, {nil, each(24, api.OpEq, num(0))}, {nil, each(24, api.OpPrefix, text("x"))}, {row(exists("a")), row(exists("a"), exists("b"))}, {row(exists("a")), row(ask("a", api.OpNe, num(3)))},
		{row(ask("a", api.OpGe, num(1))), row(ask("a", api.OpGe, num(2)))}, {row(ask("a", api.OpGt, num(0))), row(ask("b", api.OpEq, num(1)), ask("a", api.OpGt, num(3)))}, {row(ask("a", api.OpPrefix, text("x"))), row(ask("a", api.OpPrefix, text("xy")))}, {row(ask("a", api.OpGe, boolean(0))), row(ask("a", api.OpEq, boolean(1)))},
		{without(23), without(24)}, {each(24, api.OpPrefix, text("x")), each(24, api.OpEq, text("xy"))}, {each(23, api.OpGt, num(0)), each(24, api.OpGt, num(0))},
	}
}

// unlike tells pairs of filters neither of which covers the other.
func unlike() [][2][]api.Pred {
	return [][2][]api.Pred{
		{row(exists("a")), row(exists("b"))}, {row(ask("a", api.OpGt, num(3))), row(ask("a", api.OpLt, num(9)))}, {row(ask("a", api.OpEq, num(1))), row(ask("a", api.OpEq, num(2)))}, {row(ask("a", api.OpEq, num(1))), row(ask("a", api.OpEq, boolean(1)))}, {row(ask("a", api.OpNe, num(1))), row(ask("a", api.OpNe, text("x")))},
		{row(ask("a", api.OpGt, num(3))), row(ask("a", api.OpGt, num(0)), exists("b"))}, {each(24, api.OpGt, num(0)), without(24)}, {row(exists("a")), row(exists("A"))},
	}
}

// risingIds tells pairs of Ids the first of which is less, such as states have and others.
func risingIds() [][2]int {
	return [][2]int{{1, 2}, {2, 10}, {1, api.MaxId}, {api.MaxId - 1, api.MaxId}, {0, 1}, {-1, 0}, {-2, -1}, {-5, 5}, {api.MinInt, api.MaxInt}, {api.MinInt, -1}, {api.MinInt, api.MinInt + 1}, {api.MaxInt - 1, api.MaxInt}, {0, api.MaxInt}, {1, 1 << 32}}
}

// mustAbove holds that a stands above b, and b not above a, whoever they are from.
func mustAbove(t *testing.T, a, b api.Entry) {
	t.Helper()
	for _, from := range [][2]int{{1, 1}, {1, 2}, {2, 1}, {0, -7}, {b.Id, a.Id}} {
		a.From, b.From = from[0], from[1]
		if !poset.Above(a, b) || poset.Above(b, a) {
			t.Errorf("%+v\nabove %+v: %v, and the other way round: %v", a, b, poset.Above(a, b), poset.Above(b, a))
		}
	}
}

// mustNotAbove holds that neither of the two stands above the other.
func mustNotAbove(t *testing.T, a, b api.Entry) {
	t.Helper()
	for _, from := range [][2]int{{1, 1}, {1, 2}, {2, 1}} {
		a.From, b.From = from[0], from[1]
		if poset.Above(a, b) || poset.Above(b, a) {
			t.Errorf("%+v\nabove %+v: %v, and the other way round: %v", a, b, poset.Above(a, b), poset.Above(b, a))
		}
	}
}

// P11.1: of two that cover each other the one whose Id is less.
func TestAboveOfEqualFilters(t *testing.T) {
	for _, x := range equals() {
		for _, id := range risingIds() {
			mustAbove(t, entry(id[0], x[0]...), entry(id[1], x[1]...))
			mustAbove(t, entry(id[0], x[1]...), entry(id[1], x[0]...))
		}
	}
}

// P11.1: who covers another one that does not cover it, whatever their Ids.
func TestAboveOfWiderFilters(t *testing.T) {
	for _, x := range wider() {
		for _, id := range risingIds() {
			mustAbove(t, entry(id[0], x[0]...), entry(id[1], x[1]...))
			mustAbove(t, entry(id[1], x[0]...), entry(id[0], x[1]...))
		}
	}
}

// P11.1: of two neither of which covers the other none.
func TestAboveOfUnlikeFilters(t *testing.T) {
	for _, x := range unlike() {
		for _, id := range risingIds() {
			mustNotAbove(t, entry(id[0], x[0]...), entry(id[1], x[1]...))
			mustNotAbove(t, entry(id[1], x[0]...), entry(id[0], x[1]...))
		}
	}
}

// P11.1: of one and the same Id none, whatever the filters.
func TestAboveOfOneId(t *testing.T) {
	pairs := slices.Concat(equals(), wider(), unlike())
	for _, f := range slices.Concat(voids(), wrongs()) {
		pairs = append(pairs, [2][]api.Pred{f, f}, [2][]api.Pred{nil, f})
	}
	for _, x := range pairs {
		for _, id := range []int{0, 1, 7, api.MaxId, -1, api.MinInt, api.MaxInt} {
			mustNotAbove(t, entry(id, x[0]...), entry(id, x[1]...))
			mustNotAbove(t, entry(id, x[0]...), entry(id, x[0]...))
		}
	}
}

// P11.1: what no event meets stands below all that an event meets, and among its like the least Id is above.
func TestAboveOfVoidFilters(t *testing.T) {
	for _, x := range voids() {
		for _, id := range risingIds() {
			for _, f := range [][]api.Pred{nil, row(exists("a")), row(exists("c")), row(ask("a", api.OpEq, num(1))), without(24), each(24, api.OpPrefix, text("x"))} {
				mustAbove(t, entry(id[0], f...), entry(id[1], x...))
				mustAbove(t, entry(id[1], f...), entry(id[0], x...))
			}
			for _, y := range voids() {
				mustAbove(t, entry(id[0], x...), entry(id[1], y...))
			}
		}
	}
}

// P11.1: a filter with a wrong predicate, or with more than 24, stands neither above nor below any, not even its like.
func TestAboveOfWrongFilters(t *testing.T) {
	others := slices.Concat([][]api.Pred{nil, row(exists("a")), row(ask("a", api.OpGt, num(0))), without(24), each(24, api.OpEq, num(0))}, voids(), wrongs())
	for _, x := range wrongs() {
		for _, id := range [][2]int{{1, 2}, {2, 1}, {-1, api.MaxInt}} {
			mustNotAbove(t, entry(id[0], x...), entry(id[1], x...))
			for _, y := range others {
				mustNotAbove(t, entry(id[0], x...), entry(id[1], y...))
			}
		}
	}
	// 24 are still fine.
	mustAbove(t, entry(1, slices.Repeat(row(exists("a")), 24)...), entry(2, without(24)...))
}

// P11.1, P11.4: of filters of each kind each against each: at most one of two stands above the other, as the chapter's words tell by what covers what.
func TestAboveOfEachAgainstEach(t *testing.T) {
	all := slices.Concat(voids(), wrongs())
	for _, x := range slices.Concat(equals(), wider(), unlike()) {
		all = append(all, x[0], x[1])
	}
	for k, f := range all {
		for m, g := range all {
			for _, id := range [][2]int{{k + 1, m + 1}, {m + 1, k + 1}, {k - m, m - k}} {
				a, b := entry(id[0], f...), entry(id[1], g...)
				there, back := filter.Covers(f, g), filter.Covers(g, f)
				want := id[0] != id[1] && there && (!back || id[0] < id[1])
				if got := poset.Above(a, b); got != want {
					t.Errorf("%+v\nabove %+v: %v", a, b, got)
				}
				if poset.Above(a, b) && poset.Above(b, a) {
					t.Errorf("%+v\nand %+v stand above each other", a, b)
				}
			}
		}
	}
}
