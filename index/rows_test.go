package index_test

import (
	"math/rand"
	"slices"
	"strings"
	"testing"

	"rosette/api"
	"rosette/event"
	"rosette/filter"
	"rosette/index"
)

// somePreds tells predicates of each Op and kind over few names, and those that never hold: so few that entries share them.
func somePreds() []api.Pred {
	out := slices.Concat(wrongs(), voids())
	for _, name := range []string{"a", "b", "ab", "c"} {
		out = append(out, exists(name), ask(name, api.OpPrefix, text("")), ask(name, api.OpPrefix, text("x")))
		for op := api.OpEq; op <= api.OpGe; op++ {
			for _, side := range []api.Value{num(0), num(3), text("x"), text(""), boolean(1)} {
				out = append(out, ask(name, op, side))
			}
		}
	}
	return out
}

// someValues tells right values of each kind, some of which predicates ask for.
func someValues() []api.Value {
	return []api.Value{num(0), num(2), num(3), num(4), num(api.MinInt), num(api.MaxInt), text(""), text("w"), text("x"), text("xy"), text("y"), text(strings.Repeat("x", 64)), boolean(0), boolean(1)}
}

// drawnEvent draws a right event of few names, some of which nobody asks for.
func drawnEvent(t *testing.T, draw *rand.Rand) []api.Attr {
	t.Helper()
	l, values := []api.Attr{}, someValues()
	for _, name := range []string{"c", "a", "ab", "b", "d", "aa"} {
		if draw.Intn(4) > 0 {
			l = append(l, attr(name, values[draw.Intn(len(values))]))
		}
	}
	e, err := event.Make(l)
	if err != api.OK {
		t.Fatalf("%+v is no event: %v", l, err)
	}
	return e
}

// madeFor draws predicates that e meets, as far as there are such.
func madeFor(draw *rand.Rand, e []api.Attr) []api.Pred {
	f := []api.Pred{}
	for _, a := range e {
		switch draw.Intn(4) {
		case 0:
			f = append(f, exists(a.Name))
		case 1:
			if len(a.Value.Text) <= api.MaxSide {
				f = append(f, ask(a.Name, []int{api.OpEq, api.OpLe, api.OpGe}[draw.Intn(3)], a.Value))
			}
		}
	}
	return f
}

// drawnRow draws entries, the filters of some of which e meets, and of some almost: with Ids that do not rise, and that may stand twice.
func drawnRow(draw *rand.Rand, preds []api.Pred, e []api.Attr) []api.Entry {
	l := []api.Entry{}
	for range draw.Intn(20) {
		n := api.Entry{Id: draw.Intn(30) - 5, From: draw.Intn(3)}
		if draw.Intn(2) == 0 {
			n.Filter = madeFor(draw, e)
		}
		for range draw.Intn(3) {
			n.Filter = append(n.Filter, preds[draw.Intn(len(preds))])
		}
		if len(n.Filter) > 0 && draw.Intn(3) == 0 {
			n.Filter = append(n.Filter, n.Filter[draw.Intn(len(n.Filter))])
		}
		if len(l) > 0 && draw.Intn(4) == 0 {
			n.Filter = l[draw.Intn(len(l))].Filter
		}
		l = append(l, n)
	}
	return l
}

// filterByFilter tells what one would be told without an index.
func filterByFilter(l []api.Entry, e []api.Attr) []int {
	ids := []int{}
	for _, n := range l {
		if filter.Meets(n.Filter, e) {
			ids = append(ids, n.Id)
		}
	}
	return ids
}

// unlike tells how many unlike predicates l has, each held against each field by field.
func unlike(l []api.Entry) int {
	found := []api.Pred{}
	for _, n := range l {
		for _, p := range n.Filter {
			same := func(q api.Pred) bool {
				return p.Name == q.Name && p.Op == q.Op && p.Value.Kind == q.Value.Kind && p.Value.Int == q.Value.Int && p.Value.Text == q.Value.Text
			}
			if !slices.ContainsFunc(found, same) {
				found = append(found, p)
			}
		}
	}
	return len(found)
}

// P12.1, P12.2, P12.4: many drawn rows and events: what filter by filter is told, in whatever order events are asked, and how often.
func TestDrawnRows(t *testing.T) {
	draw, preds := rand.New(rand.NewSource(120)), somePreds()
	met, unmet := 0, 0
	for range 2000 {
		events := [][]api.Attr{nil, {}}
		for range 12 {
			events = append(events, drawnEvent(t, draw))
		}
		l := drawnRow(draw, preds, events[2])
		x, other := index.Build(l), index.Build(l)
		if got := x.Size(); got != unlike(l) {
			t.Fatalf("Size of %+v:\n%d, and not %d", l, got, unlike(l))
		}
		for range 3 {
			for _, k := range draw.Perm(len(events)) {
				want := filterByFilter(l, events[k])
				got, again, beside := x.Meet(events[k]), x.Meet(events[k]), other.Meet(events[k])
				if !slices.Equal(got, want) || !slices.Equal(again, want) || !slices.Equal(beside, want) {
					t.Fatalf("%+v\nmeets of %+v:\n%v, again %v, of another index %v, and not %v", events[k], l, got, again, beside, want)
				}
				met, unmet = met+len(want), unmet+len(l)-len(want)
			}
		}
		if x.Size() != other.Size() || x.Size() != unlike(l) {
			t.Fatalf("Size of %+v became %d", l, x.Size())
		}
	}
	if met < 50000 || unmet < 50000 {
		t.Error("too few filters are met, or not:", met, unmet)
	}
}

// P12.4: each predicate alone, and each two of one filter, of each value of each name.
func TestEachPredicateAgainstEachValue(t *testing.T) {
	preds, l := somePreds(), []api.Entry{}
	for k, p := range preds {
		l = append(l, entry(k, p), entry(-k, p, preds[k*7%len(preds)]), entry(k, p, preds[(k+1)%len(preds)], p))
	}
	x := index.Build(l)
	if x.Size() != unlike(l) {
		t.Errorf("Size: %d, and not %d", x.Size(), unlike(l))
	}
	for _, name := range []string{"a", "ab", "b", "c", "d", "A"} {
		for _, v := range someValues() {
			e := []api.Attr{attr(name, v)}
			if got, want := x.Meet(e), filterByFilter(l, e); !slices.Equal(got, want) {
				t.Errorf("%+v meets:\n%v, and not\n%v", e, got, want)
			}
		}
	}
}

// P12.4: as many entries as a state has, with as many predicates as a filter has, against events with as many attributes as may be.
func TestLongRows(t *testing.T) {
	draw := rand.New(rand.NewSource(121))
	for range 30 {
		l := []api.Entry{}
		for k := range 64 {
			f := []api.Pred{}
			for m := range 24 {
				f = append(f, ask(letter(m), []int{api.OpNe, api.OpGe, api.OpLe}[draw.Intn(3)], num(draw.Intn(3)*k)))
			}
			l = append(l, entry(64-k, f[:24-draw.Intn(24)]...))
		}
		x := index.Build(l)
		for n := range 60 {
			e := []api.Attr{}
			for m := range 24 {
				e = append(e, attr(letter(m), num(n+draw.Intn(2))))
			}
			if got, want := x.Meet(e), filterByFilter(l, e); !slices.Equal(got, want) {
				t.Fatalf("%+v\nmeets of %+v:\n%v, and not %v", e, l, got, want)
			}
		}
	}
}

// P12.2, P12.4: a filter may have more predicates than one that is right, as it is met all the same.
func TestFiltersOfMoreThanMayBe(t *testing.T) {
	f := []api.Pred{}
	for k := range 300 {
		f = append(f, ask("a", api.OpNe, num(k)))
	}
	l := []api.Entry{entry(1, f[:25]...), entry(2, f[:256]...), entry(3, f...), entry(4, f[299])}
	for k := -1; k <= 300; k++ {
		e := []api.Attr{attr("a", num(k))}
		mustMeet(t, l, e, filterByFilter(l, e)...)
	}
	// Nor does a count come round to where it began.
	l = append(l, entry(5, slices.Repeat(row(exists("a"), exists("b")), 1<<15)...))
	mustMeet(t, l, nil)
	mustMeet(t, l, []api.Attr{attr("b", num(0))})
	mustMeet(t, l, []api.Attr{attr("a", num(299))}, 1, 2)
	mustMeet(t, l, []api.Attr{attr("a", num(-1))}, 1, 2, 3, 4)
}

// W1: of events that are not right nothing is promised but that it ends.
func TestWrongEvents(t *testing.T) {
	draw, preds := rand.New(rand.NewSource(122)), somePreds()
	wrong := []api.Value{{}, {Kind: 4}, {Kind: api.KindInt, Text: "x"}, boolean(2), text(strings.Repeat("x", 65)), num(3)}
	long := []api.Attr{}
	for range 2000 {
		long = append(long, attr([]string{"a", "b", "", "ab"}[draw.Intn(4)], wrong[draw.Intn(len(wrong))]))
	}
	for range 200 {
		x := index.Build(drawnRow(draw, preds, nil))
		x.Meet(long[:draw.Intn(len(long))])
		x.Meet([]api.Attr{{}, {}})
		x.Meet([]api.Attr{attr("b", num(3)), attr("a", num(3)), attr("a", num(0))})
	}
	index.Build(make([]api.Entry, 5000)).Meet(make([]api.Attr, 5000))
}
