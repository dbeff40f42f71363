package route_test

import (
	"reflect"
	"slices"
	"testing"

	"rosette/api"
	"rosette/route"
	"rosette/table"
)

// broker tells a state of several links, whose subscriptions stand above each other, each time in new memory.
func broker() api.State {
	return api.State{
		Epoch: 5,
		Links: []api.Link{{Id: 1, Addr: "one"}, {Id: 2}, {Id: 4, Addr: "four"}, {Id: 6}},
		Advs:  entries(entry(1, 4, least(0)), entry(2, 1, most(2)), entry(5, 4, exists("b"))),
		Subs:  entries(entry(1, 2, least(5)), entry(2, 1, least(3)), entry(3, 4, least(1)), entry(4, 2, least(7)), entry(6, 6, ask("b", api.OpEq, text("x"))), entry(7, 2, exists("c"))),
	}
}

// mustRoute holds that r tells what a router over broker tells.
func mustRoute(t *testing.T, r *route.Router) {
	t.Helper()
	x := attr("b", text("x"))
	for _, k := range []struct {
		e    []api.Attr
		from int
		want []int
	}{
		{nil, 0, nil}, {a(0), 0, nil}, {a(1), 0, []int{4}}, {a(1), 4, nil}, {a(3), 0, []int{1, 4}}, {a(6), 9, []int{1, 2, 4}}, {a(9), 2, []int{1, 4}}, {having(x), 0, []int{6}}, {having(x), 6, nil}, {having(attr("a", num(8)), x), 4, []int{1, 2, 6}}, {having(attr("c", num(8))), 1, []int{2}},
	} {
		if got := r.Next(k.e, k.from); !slices.Equal(got, k.want) {
			t.Errorf("Next of %+v from %d: %v, and not %v", k.e, k.from, got, k.want)
		}
	}
	for id, want := range map[int][]int{0: nil, 1: {3, 6, 7}, 2: nil, 3: nil, 4: {2, 6, 7}, 6: nil} {
		if got := r.Toward(id); !slices.Equal(got, want) {
			t.Errorf("Toward %d: %v, and not %v", id, got, want)
		}
	}
}

// paddedEntries tells l in new memory, with spare room behind it, and behind each filter, which is marked.
func paddedEntries(l []api.Entry) []api.Entry {
	mark := slices.Repeat(row(exists("c")), 3)
	out := slices.Clone(l)
	for range 3 {
		out = append(out, entry(-77, 2, slices.Clone(mark)...))
	}
	out = slices.Clip(out)
	for k, n := range l {
		out[k].Filter = slices.Concat(n.Filter, mark)[:len(n.Filter)]
	}
	return out[:len(l)]
}

// padded tells s in new memory, with spare room behind each row of it, which is marked.
func padded(s api.State) api.State {
	s.Links = slices.Concat(s.Links, slices.Repeat([]api.Link{{Id: 2, Addr: "mark"}}, 3))[:len(s.Links)]
	s.Advs, s.Subs = paddedEntries(s.Advs), paddedEntries(s.Subs)
	return s
}

// roomOf tells l with its spare room as part of it, in new memory.
func roomOf(l []api.Entry) []api.Entry {
	out := slices.Clone(l[:cap(l)])
	for k, n := range out {
		out[k].Filter = slices.Clone(n.Filter[:cap(n.Filter)])
	}
	return out
}

// allRoom tells s with its spare room as part of it, in new memory.
func allRoom(s api.State) api.State {
	s.Links = slices.Clone(s.Links[:cap(s.Links)])
	s.Advs, s.Subs = roomOf(s.Advs), roomOf(s.Subs)
	return s
}

// paddedEvent tells e in new memory, with spare room behind it, which is marked.
func paddedEvent(e []api.Attr) []api.Attr {
	return slices.Concat(e, having(attr("b", text("x")), attr("c", num(9)), attr("a", num(9))))[:len(e)]
}

// fill overwrites a list and its spare room.
func fill[T any](l []T, with T) {
	l = l[:cap(l)]
	for k := range l {
		l[k] = with
	}
}

// fillFilters overwrites each filter of l, spare room too.
func fillFilters(l []api.Entry, with api.Pred) {
	for _, n := range l {
		fill(n.Filter, with)
	}
}

// P13.4: what is handed in stays, its spare room too.
func TestArgumentsStay(t *testing.T) {
	given := padded(broker())
	kept := allRoom(given)
	for range 2 {
		r := route.New(given)
		for _, e := range [][]api.Attr{nil, a(1), a(9), having(attr("a", num(8)), attr("b", text("x")), attr("c", num(1)))} {
			e = paddedEvent(e)
			was := slices.Clone(e[:cap(e)])
			for from := range 8 {
				r.Next(e, from)
				r.Toward(from)
			}
			if !slices.Equal(e[:cap(e)], was) {
				t.Errorf("%+v became %+v", was, e[:cap(e)])
			}
		}
		mustRoute(t, r)
		if !reflect.DeepEqual(allRoom(given), kept) {
			t.Errorf("%+v\nbecame %+v", kept, allRoom(given))
		}
	}
}

// P13.4: states that are changed behind New change nothing, in whatever way.
func TestStatesAreNotKept(t *testing.T) {
	for name, change := range map[string]func(s api.State){
		"nothing":        func(s api.State) {},
		"links":          func(s api.State) { fill(s.Links, api.Link{Id: 2}) },
		"a link":         func(s api.State) { s.Links[2].Id = 5 },
		"links' order":   func(s api.State) { slices.Reverse(s.Links) },
		"advertisements": func(s api.State) { fill(s.Advs, entry(9, 2)) },
		"their Froms":    func(s api.State) { s.Advs[0].From, s.Advs[2].From = 6, 6 },
		"their filters": func(s api.State) {
			s.Advs[0].Filter, s.Advs[1].Filter, s.Advs[2].Filter = row(most(-1)), nil, row(most(-1))
		},
		"their predicates":   func(s api.State) { fillFilters(s.Advs, most(-1)) },
		"an int of theirs":   func(s api.State) { s.Advs[1].Filter[0].Value.Int = -9 },
		"a name of theirs":   func(s api.State) { s.Advs[2].Filter[0].Name, s.Advs[0].Filter[0].Value.Int = "z", 8 },
		"subscriptions":      func(s api.State) { fill(s.Subs, entry(9, 1)) },
		"their Ids":          func(s api.State) { s.Subs[0].Id, s.Subs[1].Id = 77, 78 },
		"their order":        func(s api.State) { slices.Reverse(s.Subs) },
		"where they are of":  func(s api.State) { s.Subs[1].From, s.Subs[2].From = 6, 6 },
		"what they ask":      func(s api.State) { s.Subs[1].Filter, s.Subs[2].Filter = row(least(99)), nil },
		"what all ask":       func(s api.State) { fillFilters(s.Subs, exists("d")) },
		"what all ask wrong": func(s api.State) { fillFilters(s.Subs, api.Pred{}) },
		"an int":             func(s api.State) { s.Subs[1].Filter[0].Value.Int, s.Subs[2].Filter[0].Value.Int = 40, 41 },
		"an Op":              func(s api.State) { s.Subs[2].Filter[0].Op = api.OpLe },
		"a text":             func(s api.State) { s.Subs[4].Filter[0].Value.Text = "y" },
		"longer rows": func(s api.State) {
			_ = append(append(s.Subs, entry(8, 6)), entry(9, 1))
			_ = append(s.Advs, entry(9, 2))
		},
	} {
		t.Run(name, func(t *testing.T) {
			given := padded(broker())
			r := route.New(given)
			change(given)
			mustRoute(t, r)
			// Between two calls as well as behind New.
			given = padded(broker())
			r = route.New(given)
			mustRoute(t, r)
			change(given)
			mustRoute(t, r)
		})
	}
}

// P13.4: an event that is changed behind Next changes neither what was answered nor what is answered then.
func TestEventsAreNotKept(t *testing.T) {
	r := route.New(broker())
	given := paddedEvent(a(6))
	for range 2 {
		first := r.Next(given, 0)
		fill(given, attr("c", num(1)))
		if !slices.Equal(first, []int{1, 2, 4}) {
			t.Errorf("what was answered became %v", first)
		}
		mustRoute(t, r)
		if got := r.Next(given, 0); !slices.Equal(got, []int{2}) {
			t.Errorf("the same memory with another event: %v", got)
		}
		given[0] = attr("a", num(6))
	}
}

// P13.4: what is answered is new memory, its spare room too.
func TestAnswersAreNewMemory(t *testing.T) {
	given := padded(broker())
	kept := allRoom(given)
	r, other := route.New(given), route.New(given)
	e := paddedEvent(a(9))
	was := slices.Clone(e[:cap(e)])
	next, toward := []int{1, 2, 4}, []int{2, 6, 7}
	first, second := r.Next(e, 9), r.Next(e, 9)
	third, fourth := r.Toward(4), r.Toward(4)
	fill(second, -88)
	fill(fourth, -88)
	mustRoute(t, r)
	if !slices.Equal(first, next) || !slices.Equal(third, toward) {
		t.Errorf("what was answered became %v and %v, and was %v and %v", first, third, next, toward)
	}
	if again, told := r.Next(e, 9), r.Toward(4); !slices.Equal(again, next) || !slices.Equal(told, toward) || !slices.Equal(first, next) || !slices.Equal(third, toward) {
		t.Errorf("answered again: %v and %v, and not %v and %v", again, told, next, toward)
	}
	fill(first, -88)
	fill(third, -88)
	if !slices.Equal(e[:cap(e)], was) || !reflect.DeepEqual(allRoom(given), kept) {
		t.Error("what was answered is what was handed in")
	}
	mustRoute(t, r)
	mustRoute(t, other)
}

// P13.4: one router knows nothing of another one, over the same memory too.
func TestRoutersStandApart(t *testing.T) {
	s := broker()
	r := route.New(s)
	s.Subs[2].From, s.Advs[1].From = 6, 2
	other, none := route.New(s), route.New(api.State{})
	if !table.Right(s) {
		t.Fatalf("not right: %+v", s)
	}
	for range 3 {
		mustRoute(t, r)
		if got := other.Next(a(3), 1); !slices.Equal(got, []int{6}) {
			t.Errorf("Next of another router: %v", got)
		}
		if one, two, four := other.Toward(1), other.Toward(2), other.Toward(4); len(one) != 0 || !slices.Equal(two, []int{3, 6}) || !slices.Equal(four, []int{3, 6, 7}) {
			t.Errorf("Toward of another router: %v, %v, %v", one, two, four)
		}
		if got, told := none.Next(a(3), 1), none.Toward(1); len(got) != 0 || len(told) != 0 {
			t.Errorf("a router over none: %v, %v", got, told)
		}
	}
}
