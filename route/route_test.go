package route_test

import (
	"slices"
	"strings"
	"testing"

	"rosette/api"
	"rosette/route"
	"rosette/table"
)

func num(n int) api.Value { return api.Value{Kind: api.KindInt, Int: n} }

func text(s string) api.Value { return api.Value{Kind: api.KindText, Text: s} }

func boolean(n int) api.Value { return api.Value{Kind: api.KindBool, Int: n} }

func attr(name string, v api.Value) api.Attr { return api.Attr{Name: name, Value: v} }

func ask(name string, op int, v api.Value) api.Pred { return api.Pred{Name: name, Op: op, Value: v} }

// exists tells the predicate that asks for no more than an attribute of that name.
func exists(name string) api.Pred { return api.Pred{Name: name, Op: api.OpExists} }

// least tells the predicate that asks for an a of n at least.
func least(n int) api.Pred { return ask("a", api.OpGe, num(n)) }

// most tells the predicate that asks for an a of n at most.
func most(n int) api.Pred { return ask("a", api.OpLe, num(n)) }

// row tells a filter.
func row(l ...api.Pred) []api.Pred { return l }

// entry tells an entry of that Id and filter, from that link.
func entry(id, from int, f ...api.Pred) api.Entry { return api.Entry{Id: id, From: from, Filter: f} }

// entries tells a row of entries.
func entries(l ...api.Entry) []api.Entry { return l }

// links tells links of those Ids.
func links(ids ...int) []api.Link {
	out := []api.Link{}
	for _, id := range ids {
		out = append(out, api.Link{Id: id})
	}
	return out
}

// having tells the event of those attributes.
func having(l ...api.Attr) []api.Attr { return l }

// a tells the event whose a is n.
func a(n int) []api.Attr { return having(attr("a", num(n))) }

// mustOver tells a router over s, which has to be right.
func mustOver(t *testing.T, s api.State) *route.Router {
	t.Helper()
	if !table.Right(s) {
		t.Fatalf("not right: %+v", s)
	}
	r := route.New(s)
	if r == nil {
		t.Fatalf("no router over %+v", s)
	}
	return r
}

// mustNext holds that a router over s tells these links of e, asked again too.
func mustNext(t *testing.T, s api.State, e []api.Attr, from int, want ...int) {
	t.Helper()
	r := mustOver(t, s)
	for range 2 {
		if got := r.Next(e, from); !slices.Equal(got, want) {
			t.Errorf("Next of %+v from %d, of %+v:\n%v, and not %v", e, from, s, got, want)
		}
	}
}

// mustToward holds that a router over s tells these subscriptions toward id, asked again too.
func mustToward(t *testing.T, s api.State, id int, want ...int) {
	t.Helper()
	r := mustOver(t, s)
	for range 2 {
		if got := r.Toward(id); !slices.Equal(got, want) {
			t.Errorf("Toward %d, of %+v:\n%v, and not %v", id, s, got, want)
		}
	}
}

// oddIds tells numbers that are no link's of most states, some of which no link may have.
func oddIds() []int {
	return []int{0, -1, 77, 1 << 32, 1<<32 + 1, api.MaxId + 1, api.MinInt, api.MaxInt}
}

// P13.1, P13.2, P13.3: the zero state, and states without links or subscriptions.
func TestOfNone(t *testing.T) {
	for _, s := range []api.State{
		{}, {Links: []api.Link{}, Advs: entries(), Subs: entries()}, {Epoch: api.MaxEpoch},
		{Links: links(1)}, {Links: links(1, 2, 3)}, {Links: links(1, 2), Advs: entries(entry(1, 1), entry(2, 2, least(3)))},
	} {
		for _, id := range append(oddIds(), 1, 2, 3) {
			mustNext(t, s, nil, id)
			mustNext(t, s, having(), id)
			mustNext(t, s, a(7), id)
			mustToward(t, s, id)
		}
	}
}

// P13.2: an event that nobody subscribed to goes nowhere.
func TestNextOfNobody(t *testing.T) {
	s := api.State{Links: links(1, 2), Subs: entries(entry(1, 1, least(3)), entry(2, 2, exists("b")), entry(3, 2, ask("c", api.OpEq, text("x"))))}
	for _, e := range [][]api.Attr{nil, {}, a(2), a(api.MinInt), having(attr("a", text("9"))), having(attr("a", boolean(1))), having(attr("aa", num(9))), having(attr("c", text("xy"))), having(attr("a", num(2)), attr("c", text("")), attr("d", num(3)))} {
		for _, from := range append(oddIds(), 1, 2) {
			mustNext(t, s, e, from)
		}
	}
}

// P13.2: links from which there is no subscription are told nothing, wherever they stand.
func TestNextOfLinksWithoutSubscriptions(t *testing.T) {
	for _, who := range []int{2, 4, 6, 8} {
		s := api.State{Links: links(2, 4, 6, 8), Subs: entries(entry(5, who, least(3)))}
		mustNext(t, s, a(3), 0, who)
		mustNext(t, s, a(2), 0)
		for _, from := range []int{2, 4, 6, 8} {
			if from == who {
				mustNext(t, s, a(3), from)
			} else {
				mustNext(t, s, a(3), from, who)
			}
		}
	}
}

// P13.2: a link stands once, however many subscriptions from it the event meets.
func TestNextOfSeveralFromOneLink(t *testing.T) {
	s := api.State{Links: links(1, 2), Subs: entries(entry(1, 2, least(3)), entry(2, 2, least(5)), entry(3, 2, exists("a")), entry(4, 1, least(9)), entry(5, 2))}
	mustNext(t, s, nil, 0, 2)
	mustNext(t, s, a(4), 0, 2)
	mustNext(t, s, a(7), 0, 2)
	mustNext(t, s, a(9), 0, 1, 2)
	mustNext(t, s, a(9), 2, 1)
	mustNext(t, s, a(9), 1, 2)
	// Many, of which one after another is met.
	many := api.State{Links: links(3, 7)}
	for k := range api.MaxEntries {
		many.Subs = append(many.Subs, entry(k+1, 3+4*(k%2), least(k)))
	}
	mustNext(t, many, a(-1), 0)
	mustNext(t, many, a(0), 0, 3)
	for k := 1; k <= api.MaxEntries; k++ {
		mustNext(t, many, a(k), 0, 3, 7)
		mustNext(t, many, a(k), 3, 7)
		mustNext(t, many, a(k), 7, 3)
	}
}

// P13.2: Ids rise, in whatever order the subscriptions stand.
func TestNextRises(t *testing.T) {
	ids := []int{1, 9, 10, 1 << 20, api.MaxId}
	for _, order := range [][]int{{0, 1, 2, 3, 4}, {4, 3, 2, 1, 0}, {2, 4, 0, 3, 1}, {3, 0, 4, 1, 2}, {1, 0, 3, 2, 4}} {
		s := api.State{Links: links(ids...)}
		for k, n := range order {
			s.Subs = append(s.Subs, entry(k+1, ids[n], least(n)), entry(api.MaxId-9+k, ids[n], exists("b")))
		}
		slices.SortFunc(s.Subs, func(x, y api.Entry) int { return x.Id - y.Id })
		for n := range 5 {
			mustNext(t, s, a(n), 0, ids[:n+1]...)
			for m := range n + 1 {
				mustNext(t, s, a(n), ids[m], slices.Concat(ids[:m], ids[m+1:n+1])...)
			}
		}
		mustNext(t, s, having(attr("b", num(1))), -1, ids...)
	}
}

// P13.2: as many links as may be, each with subscriptions.
func TestNextOfManyLinks(t *testing.T) {
	s := api.State{}
	ids := []int{}
	for k := range api.MaxLinks {
		ids = append(ids, 3*k+1)
	}
	s.Links = links(ids...)
	for k := range api.MaxEntries {
		s.Subs = append(s.Subs, entry(k+1, ids[(k*7+3)%api.MaxLinks], ask("a", api.OpNe, num(k%3))))
	}
	mustNext(t, s, a(9), 0, ids...)
	for k, id := range ids {
		mustNext(t, s, a(9), id, slices.Delete(slices.Clone(ids), k, k+1)...)
	}
}

// P13.2: the link that an event came from is left out, alone and beside others, and one that is no link leaves out none.
func TestNextFrom(t *testing.T) {
	s := api.State{Links: links(1, 2, 3), Subs: entries(entry(1, 2, least(3)), entry(2, 1, exists("b")), entry(3, 2, exists("c")), entry(4, 3, exists("c")))}
	mustNext(t, s, a(3), 2)
	mustNext(t, s, a(3), 1, 2)
	mustNext(t, s, having(attr("c", num(1))), 2, 3)
	mustNext(t, s, having(attr("c", num(1))), 3, 2)
	mustNext(t, s, having(attr("b", num(1)), attr("c", num(1))), 3, 1, 2)
	mustNext(t, s, having(attr("b", num(1)), attr("c", num(1))), 1, 2, 3)
	for _, from := range append(oddIds(), 4) {
		mustNext(t, s, a(3), from, 2)
		mustNext(t, s, having(attr("b", num(1)), attr("c", num(1))), from, 1, 2, 3)
	}
}

// P13.2: what from a link is advertised brings it no event, and keeps none from it.
func TestNextOfAdvertisements(t *testing.T) {
	s := api.State{Links: links(1, 2, 3), Advs: entries(entry(1, 1, least(0)), entry(2, 2), entry(3, 3, exists("b"))), Subs: entries(entry(1, 3, least(5)))}
	mustNext(t, s, a(3), 0)
	mustNext(t, s, nil, 0)
	mustNext(t, s, having(attr("b", num(1))), 0)
	mustNext(t, s, a(5), 0, 3)
	mustNext(t, s, a(5), 1, 3)
	mustNext(t, s, a(5), 3)
	// An Id of an advertisement may be a subscription's too.
	s.Subs = entries(entry(1, 2, exists("c")), entry(3, 1, exists("d")))
	mustNext(t, s, having(attr("b", num(1)), attr("c", num(1))), 0, 2)
	mustNext(t, s, having(attr("c", num(1)), attr("d", num(1))), 0, 1, 2)
}

// P13.2: a subscription without predicates is met by each event.
func TestNextOfNoPredicates(t *testing.T) {
	s := api.State{Links: links(4, 8), Subs: entries(entry(1, 8), entry(2, 4, least(3)))}
	for _, e := range [][]api.Attr{nil, {}, a(2), having(attr("b", boolean(0)))} {
		mustNext(t, s, e, 0, 8)
		mustNext(t, s, e, 4, 8)
		mustNext(t, s, e, 8)
	}
	mustNext(t, s, a(3), 0, 4, 8)
	mustNext(t, s, a(3), 8, 4)
}

// P13.2: Ids of links and of subscriptions are told apart, and are of any size.
func TestNextOfIds(t *testing.T) {
	s := api.State{Links: links(1, 2, 3, api.MaxId), Subs: entries(entry(1, 3, exists("a")), entry(2, 1, exists("b")), entry(3, 2, exists("c")), entry(api.MaxId, api.MaxId, exists("d")))}
	for name, want := range map[string]int{"a": 3, "b": 1, "c": 2, "d": api.MaxId} {
		mustNext(t, s, having(attr(name, num(1))), 0, want)
		mustNext(t, s, having(attr(name, num(1))), want)
	}
}

// P13.2: all predicates of a subscription have to hold.
func TestNextOfAllPredicates(t *testing.T) {
	s := api.State{Links: links(1, 2), Subs: entries(entry(1, 1, least(3), most(5), ask("b", api.OpEq, text("x"))), entry(2, 2, ask("a", api.OpNe, num(4)), ask("b", api.OpNe, text("x"))))}
	x, y := attr("b", text("x")), attr("b", text("y"))
	mustNext(t, s, having(attr("a", num(3)), x), 0, 1)
	mustNext(t, s, having(attr("a", num(2)), x), 0)
	mustNext(t, s, having(attr("a", num(6)), x), 0)
	mustNext(t, s, having(attr("a", num(3)), y), 0, 2)
	mustNext(t, s, having(attr("a", num(4)), y), 0)
	mustNext(t, s, having(attr("a", num(4)), x), 0, 1)
	mustNext(t, s, a(4), 0)
	mustNext(t, s, having(x), 0)
}

// P13.3: none of an Id that is no link, nor of a link without advertisements.
func TestTowardOfNone(t *testing.T) {
	s := api.State{Links: links(1, 2, 3), Advs: entries(entry(5, 1)), Subs: entries(entry(1, 2), entry(2, 3, least(3)), entry(5, 1))}
	for _, id := range append(oddIds(), 2, 3, 4, 5) {
		mustToward(t, s, id)
	}
	mustToward(t, s, 1, 1)
	s.Advs = nil
	mustToward(t, s, 1)
}

// P13.3: only what is advertised From the link itself counts, and only subscriptions that cross it.
func TestTowardOfCrossed(t *testing.T) {
	s := api.State{Links: links(1, 2, 3), Advs: entries(entry(1, 1, least(5)), entry(2, 3)), Subs: entries(entry(4, 2, most(4)), entry(5, 3, ask("a", api.OpEq, num(0))))}
	mustToward(t, s, 1)
	mustToward(t, s, 2)
	mustToward(t, s, 3, 4)
	s.Advs[0].Filter = row(least(4))
	mustToward(t, s, 1, 4)
	s.Advs[0].Filter = row(least(0))
	mustToward(t, s, 1, 4)
	s.Subs[1].Filter = row(ask("a", api.OpEq, num(5)))
	mustToward(t, s, 1, 4, 5)
	// Another kind of the same name crosses nothing; another name does.
	s.Advs[0].Filter = row(ask("a", api.OpGe, text("")))
	mustToward(t, s, 1)
	s.Advs[0].Filter = row(ask("b", api.OpGe, text("")))
	mustToward(t, s, 1, 4, 5)
}

// P13.3: of several advertisements one that is crossed is enough, wherever it stands.
func TestTowardOfSeveralAdvertisements(t *testing.T) {
	for n := range 4 {
		s := api.State{Links: links(1, 2), Subs: entries(entry(9, 2, least(90), most(91)))}
		for k := range 4 {
			s.Advs = append(s.Advs, entry(k+1, 1, ask("a", api.OpEq, num(k))))
		}
		mustToward(t, s, 1)
		s.Advs[n].Filter = row(least(91))
		mustToward(t, s, 1, 9)
		s.Advs[n].From = 2
		mustToward(t, s, 1)
		mustToward(t, s, 2)
	}
	// Each is crossed by another subscription, and one of them by none.
	s := api.State{
		Links: links(1, 2, 3),
		Advs:  entries(entry(1, 1, ask("a", api.OpEq, num(1))), entry(2, 1, ask("a", api.OpEq, num(2))), entry(3, 1, ask("a", api.OpEq, num(3)))),
		Subs:  entries(entry(1, 3, least(3)), entry(2, 2, most(1)), entry(3, 2, least(4), most(9)), entry(4, 3, ask("a", api.OpNe, num(1)), ask("a", api.OpNe, num(2)), ask("a", api.OpNe, num(3)))),
	}
	mustToward(t, s, 1, 1, 2)
}

// P13.3: a filter of so many names crosses another one only if both have no more than an event may have.
func TestTowardOfManyNames(t *testing.T) {
	names := func(first byte, n int) []api.Pred {
		f := []api.Pred{}
		for k := range n {
			f = append(f, exists(string([]byte{first + byte(k)})))
		}
		return f
	}
	s := api.State{Links: links(1, 2), Advs: entries(entry(1, 1, names('A', 12)...)), Subs: entries(entry(1, 2, names('a', 12)...), entry(2, 2, names('a', 13)...), entry(3, 2, names('A', 24)...))}
	mustToward(t, s, 1, 1, 3)
	s.Subs[0].Filter = names('a', 13)
	mustToward(t, s, 1, 3)
	s.Advs[0].Filter = nil
	mustToward(t, s, 1, 1, 3)
}

// P13.3: subscriptions From the link itself are left out, ahead of the Tops.
func TestTowardLeavesItsOwnOut(t *testing.T) {
	s := api.State{Links: links(1, 2, 3), Advs: entries(entry(1, 1), entry(2, 2), entry(3, 3)), Subs: entries(entry(1, 1), entry(2, 2, least(3)), entry(3, 2, least(5)), entry(4, 3, exists("b")))}
	mustToward(t, s, 1, 2, 4)
	mustToward(t, s, 2, 1)
	mustToward(t, s, 3, 1)
	s.Subs[0].Filter = row(least(4))
	mustToward(t, s, 1, 2, 4)
	mustToward(t, s, 2, 1, 4)
	mustToward(t, s, 3, 2)
	// All of them are its own.
	s.Subs = entries(entry(1, 1), entry(2, 1, exists("b")))
	mustToward(t, s, 1)
	mustToward(t, s, 2, 1)
}

// P13.3: who crosses nothing hides nobody: what stands above is sought among those that are left.
func TestTowardOfTopsAmongThoseLeft(t *testing.T) {
	wide, narrow := row(exists("b")), row(ask("b", api.OpEq, num(1)))
	for _, x := range []struct {
		s    api.State
		want []int
	}{
		{api.State{Subs: entries(entry(1, 2, wide...), entry(2, 3, narrow...))}, []int{1}},
		{api.State{Subs: entries(entry(1, 2, narrow...), entry(2, 3, wide...))}, []int{2}},
		{api.State{Subs: entries(entry(1, 1, wide...), entry(2, 3, narrow...))}, []int{2}},
		{api.State{Subs: entries(entry(1, 2, narrow...), entry(2, 1, wide...))}, []int{1}},
		{api.State{Subs: entries(entry(1, 1, narrow...), entry(2, 3, wide...))}, []int{2}},
		{api.State{Subs: entries(entry(1, 1, wide...), entry(2, 1, narrow...))}, nil},
		{api.State{Subs: entries(entry(1, 1), entry(2, 2, wide...), entry(3, 3, narrow...))}, []int{2}},
		{api.State{Subs: entries(entry(1, 2), entry(2, 1, wide...), entry(3, 3, narrow...))}, []int{1}},
		{api.State{Subs: entries(entry(1, 1), entry(2, 1, wide...), entry(3, 3, narrow...))}, []int{3}},
	} {
		x.s.Links, x.s.Advs = links(1, 2, 3), entries(entry(1, 1, exists("c")), entry(2, 1, ask("b", api.OpEq, num(1))))
		mustToward(t, x.s, 1, x.want...)
	}
}

// P13.3: of filters that cover each other the lesser Id is told, of those that are left.
func TestTowardOfFiltersThatCoverEachOther(t *testing.T) {
	s := api.State{Links: links(1, 2, 3), Advs: entries(entry(1, 1), entry(2, 2), entry(3, 3)), Subs: entries(entry(4, 3, least(3)), entry(7, 2, least(3)), entry(9, 1, least(3)))}
	mustToward(t, s, 1, 4)
	mustToward(t, s, 2, 4)
	mustToward(t, s, 3, 7)
	s.Subs = append(s.Subs, entry(10, 2, least(2)))
	mustToward(t, s, 1, 10)
	mustToward(t, s, 2, 4)
	mustToward(t, s, 3, 10)
}

// P13.3: two chains, which are mixed, and told in the order of Subs.
func TestTowardOfTwoChains(t *testing.T) {
	s := api.State{Links: links(1, 2, 3), Advs: entries(entry(1, 1)), Subs: entries(
		entry(1, 2, least(7)), entry(2, 3, ask("b", api.OpGe, text("y"))), entry(3, 2, least(5)), entry(4, 3, ask("b", api.OpGe, text("x"))),
		entry(5, 3, least(3)), entry(6, 2, ask("b", api.OpGe, text(""))), entry(7, 2, least(9)),
	)}
	mustToward(t, s, 1, 5, 6)
	s.Subs[4].From = 1
	mustToward(t, s, 1, 3, 6)
	s.Subs[5].From = 1
	mustToward(t, s, 1, 3, 4)
	s.Subs[2].From, s.Subs[3].From = 1, 1
	mustToward(t, s, 1, 1, 2)
	s.Subs[0].From, s.Subs[1].From = 1, 1
	mustToward(t, s, 1, 7)
	s.Subs[6].From = 1
	mustToward(t, s, 1)
}

// P13.3: many that stand apart, in the order of Subs, whatever link they are from.
func TestTowardInTheOrderOfSubs(t *testing.T) {
	s, want := api.State{Links: links(1, 2, 3, 4), Advs: entries(entry(8, 1, least(0)), entry(9, 3, most(20)))}, [][]int{nil, {}, {}, {}, {}}
	for k := range api.MaxEntries {
		from := 1 + (k*5+2)%4
		s.Subs = append(s.Subs, entry(3*k+1, from, ask("a", api.OpEq, num(63-k))))
		for _, id := range []int{1, 3} {
			if from != id && (id == 1 || 63-k <= 20) {
				want[id] = append(want[id], 3*k+1)
			}
		}
	}
	for id := range want {
		mustToward(t, s, id, want[id]...)
	}
}

// W1: routers over states that are not right, and none at all, neither panic nor stay for ever.
func TestOfWrongStates(t *testing.T) {
	wrong := api.Pred{Name: strings.Repeat("n", 99), Op: -1, Value: api.Value{Kind: 9, Int: api.MinInt, Text: strings.Repeat("t", 99)}}
	many := []api.Pred{}
	for k := range 60 {
		many = append(many, ask("a", api.OpNe, num(k)))
	}
	l := entries(entry(3, 1, wrong), entry(3, 2), entry(1, 9, least(3)), entry(-1, -1, many...), entry(0, 0), entry(api.MinInt, api.MaxInt, exists("a"), wrong), entry(api.MaxInt, 1, exists("a"), exists("a")), api.Entry{})
	states := []api.State{
		{}, {Subs: l}, {Advs: l}, {Advs: l, Subs: l}, {Links: links(9, 9, 1, -1, 0, api.MaxInt, api.MinInt), Advs: l, Subs: l}, {Epoch: -1, Links: links(1, 2), Advs: l, Subs: slices.Repeat(l, 20)}, {Links: slices.Repeat(links(1), 300), Advs: slices.Repeat(l, 20), Subs: l},
	}
	events := [][]api.Attr{nil, a(3), having(attr("b", num(1)), attr("a", num(1)), attr("a", num(1))), having(attr("", api.Value{Kind: 9})), slices.Repeat(a(3), 100)}
	ids := append(oddIds(), 1, 2, 9)
	askAll := func(r *route.Router) {
		for _, id := range ids {
			r.Toward(id)
			for _, e := range events {
				r.Next(e, id)
			}
		}
	}
	for _, s := range states {
		askAll(route.New(s))
	}
	askAll(nil)
}
