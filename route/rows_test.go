package route_test

import (
	"math/rand"
	"slices"
	"testing"

	"rosette/api"
	"rosette/event"
	"rosette/filter"
	"rosette/route"
	"rosette/table"
)

// someFilters tells right filters, many of which cover or cross others.
func someFilters(t *testing.T) [][]api.Pred {
	t.Helper()
	preds := []api.Pred{
		exists("a"), least(0), least(2), most(4), most(2), ask("a", api.OpNe, num(3)), ask("a", api.OpEq, num(3)), ask("a", api.OpEq, boolean(1)), ask("a", api.OpPrefix, text("x")),
		exists("b"), ask("b", api.OpPrefix, text("")), ask("b", api.OpGt, text("x")), ask("b", api.OpLe, text("x")), ask("b", api.OpNe, num(0)), ask("b", api.OpEq, boolean(0)),
		exists("c"), ask("c", api.OpLt, num(3)), ask("c", api.OpGt, num(1)),
	}
	out := [][]api.Pred{nil}
	for k, p := range preds {
		for m, q := range preds {
			for _, f := range [][]api.Pred{row(p, q), row(p, q, preds[(k*5+m*7)%len(preds)])} {
				if one, err := filter.Norm(f); err == api.OK {
					out = append(out, one)
				}
			}
		}
	}
	return out
}

// someEvents tells right events, of all that those filters tell apart.
func someEvents(t *testing.T) [][]api.Attr {
	t.Helper()
	// A value of no kind stands for no attribute of that name.
	as := []api.Value{{}, num(-1), num(0), num(1), num(2), num(3), num(4), num(5), boolean(0), boolean(1), text("w"), text("x"), text("xy")}
	bs := []api.Value{{}, num(0), num(1), text(""), text("x"), text("y"), boolean(0), boolean(1)}
	cs := []api.Value{{}, num(1), num(2), num(3), text("")}
	out := [][]api.Attr{}
	for _, x := range as {
		for _, y := range bs {
			for _, z := range cs {
				e := having(attr("a", x), attr("b", y), attr("c", z))
				e = slices.DeleteFunc(e, func(n api.Attr) bool { return n.Value.Kind == 0 })
				if !event.Right(e) {
					t.Fatalf("%+v is no event", e)
				}
				out = append(out, e)
			}
		}
	}
	return out
}

// drawnIds draws so many Ids, which rise.
func drawnIds(draw *rand.Rand, n int) []int {
	out, last := []int{}, 0
	for range n {
		last += 1 + draw.Intn(4)
		out = append(out, last)
	}
	return out
}

// drawnEntries draws entries of those filters, from those links.
func drawnEntries(draw *rand.Rand, ids []int, filters [][]api.Pred, most int) []api.Entry {
	out := entries()
	if len(ids) == 0 {
		return out
	}
	for _, id := range drawnIds(draw, draw.Intn(most+1)) {
		out = append(out, entry(id, ids[draw.Intn(len(ids))], filters[draw.Intn(len(filters))]...))
	}
	return out
}

// drawnState draws a right state, of at most so many entries of each kind.
func drawnState(t *testing.T, draw *rand.Rand, filters [][]api.Pred, most int) api.State {
	t.Helper()
	ids := drawnIds(draw, draw.Intn(6))
	s := api.State{Epoch: draw.Intn(9), Links: links(ids...), Advs: drawnEntries(draw, ids, filters, most), Subs: drawnEntries(draw, ids, filters, most)}
	if !table.Right(s) {
		t.Fatalf("not right: %+v", s)
	}
	return s
}

// askers tells links to ask a router over s of, and some that are none.
func askers(s api.State) []int {
	out := []int{0, -1, 99}
	for _, l := range s.Links {
		out = append(out, l.Id)
	}
	return out
}

// nextByWords tells what P13.2 says, subscription by subscription.
func nextByWords(s api.State, e []api.Attr, from int) []int {
	out := []int{}
	for _, l := range s.Links {
		meets := func(sub api.Entry) bool { return sub.From == l.Id && filter.Meets(sub.Filter, e) }
		if l.Id != from && slices.ContainsFunc(s.Subs, meets) {
			out = append(out, l.Id)
		}
	}
	return out
}

// towardByWords tells what P13.3 says, with each filter held against each.
func towardByWords(s api.State, id int) []int {
	left := slices.DeleteFunc(slices.Clone(s.Subs), func(sub api.Entry) bool {
		crossed := func(adv api.Entry) bool { return adv.From == id && filter.Crosses(adv.Filter, sub.Filter) }
		return sub.From == id || !slices.ContainsFunc(s.Advs, crossed)
	})
	out := []int{}
	for _, low := range left {
		above := func(high api.Entry) bool {
			return high.Id != low.Id && filter.Covers(high.Filter, low.Filter) && (high.Id < low.Id || !filter.Covers(low.Filter, high.Filter))
		}
		if !slices.ContainsFunc(left, above) {
			out = append(out, low.Id)
		}
	}
	return out
}

// P13.1, P13.2, P13.3: many drawn states: what the words tell, in whatever order a router is asked, and how often.
func TestDrawnStates(t *testing.T) {
	draw, filters, events := rand.New(rand.NewSource(130)), someFilters(t), someEvents(t)
	gone, told, hidden := 0, 0, 0
	for range 1500 {
		s := drawnState(t, draw, filters, 10)
		r, other, ids := route.New(s), route.New(s), askers(s)
		for range 30 {
			e, id := events[draw.Intn(len(events))], ids[draw.Intn(len(ids))]
			want := nextByWords(s, e, id)
			if got, again, beside := r.Next(e, id), r.Next(e, id), other.Next(e, id); !slices.Equal(got, want) || !slices.Equal(again, want) || !slices.Equal(beside, want) {
				t.Fatalf("Next of %+v from %d, of %+v:\n%v, again %v, of another router %v, and not %v", e, id, s, got, again, beside, want)
			}
			gone += len(want)
			if draw.Intn(4) > 0 {
				continue
			}
			want = towardByWords(s, id)
			if got, again, beside := r.Toward(id), r.Toward(id), other.Toward(id); !slices.Equal(got, want) || !slices.Equal(again, want) || !slices.Equal(beside, want) {
				t.Fatalf("Toward %d, of %+v:\n%v, again %v, of another router %v, and not %v", id, s, got, again, beside, want)
			}
			told, hidden = told+len(want), hidden+len(s.Subs)-len(want)
		}
	}
	if gone < 5000 || told < 5000 || hidden < 5000 {
		t.Error("too few events go on, or subscriptions are told, or not:", gone, told, hidden)
	}
}

// P13.2: each event of one state from each link, and then again backwards.
func TestEachEventFromEachLink(t *testing.T) {
	draw, filters, events := rand.New(rand.NewSource(131)), someFilters(t), someEvents(t)
	for range 12 {
		s := drawnState(t, draw, filters, 40)
		r := route.New(s)
		for range 2 {
			for _, e := range events {
				for _, id := range askers(s) {
					if got, want := r.Next(e, id), nextByWords(s, e, id); !slices.Equal(got, want) {
						t.Fatalf("Next of %+v from %d, of %+v:\n%v, and not %v", e, id, s, got, want)
					}
				}
			}
			slices.Reverse(events)
		}
	}
}

// P13.5: an event that meets what a link advertises, and a subscription that is not From it, meets one that the link is told.
func TestTowardMissesNoEvent(t *testing.T) {
	draw, filters, events := rand.New(rand.NewSource(132)), someFilters(t), someEvents(t)
	due := 0
	for range 300 {
		s := drawnState(t, draw, filters, 12)
		r := route.New(s)
		for _, l := range s.Links {
			told := r.Toward(l.Id)
			for _, e := range events {
				published := func(adv api.Entry) bool { return adv.From == l.Id && filter.Meets(adv.Filter, e) }
				wanted := func(sub api.Entry) bool { return sub.From != l.Id && filter.Meets(sub.Filter, e) }
				known := func(sub api.Entry) bool { return wanted(sub) && slices.Contains(told, sub.Id) }
				if !slices.ContainsFunc(s.Advs, published) || !slices.ContainsFunc(s.Subs, wanted) {
					continue
				}
				due++
				if !slices.ContainsFunc(s.Subs, known) {
					t.Fatalf("%d is told %v of %+v, and keeps %+v", l.Id, told, s, e)
				}
				if len(r.Next(e, l.Id)) == 0 {
					t.Fatalf("%+v of %d goes nowhere, of %+v", e, l.Id, s)
				}
			}
		}
	}
	if due < 20000 {
		t.Error("too few events are due:", due)
	}
}

// P13.3, P13.5: each subscription that a link is told is of use to it: of another link, and crossed by what it advertises.
func TestTowardTellsWhatIsOfUse(t *testing.T) {
	draw, filters := rand.New(rand.NewSource(133)), someFilters(t)
	for range 300 {
		s := drawnState(t, draw, filters, 12)
		r := route.New(s)
		for _, l := range s.Links {
			for _, id := range r.Toward(l.Id) {
				sub, found := table.Find(s.Subs, id)
				crossed := func(adv api.Entry) bool { return adv.From == l.Id && filter.Crosses(adv.Filter, sub.Filter) }
				if !found || sub.From == l.Id || !slices.ContainsFunc(s.Advs, crossed) {
					t.Fatalf("%d is told %d of %+v", l.Id, id, s)
				}
			}
		}
	}
}
