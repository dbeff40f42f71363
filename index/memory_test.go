package index_test

import (
	"reflect"
	"slices"
	"testing"

	"rosette/api"
	"rosette/index"
)

// sharing tells entries that share predicates, among them one without any, two of one Id, and some that nothing meets.
func sharing() []api.Entry {
	a, b, c := over(3), exists("b"), ask("c", api.OpPrefix, text("x"))
	return []api.Entry{entry(6, a, b), entry(5, b, c), entry(4), entry(6, a, a), entry(3, c, a), entry(2, api.Pred{}), entry(1, voids()[0], a), entry(9, b)}
}

// asked tells events, each of which meets other ones of sharing, and who these are.
func asked() ([][]api.Attr, [][]int) {
	a, b, c := attr("a", num(4)), attr("b", boolean(1)), attr("c", text("xy"))
	return [][]api.Attr{nil, having(a), having(b), having(c), having(a, b), having(a, c), having(b, c), having(a, b, c)},
		[][]int{{4}, {4, 6}, {4, 9}, {4}, {6, 4, 6, 9}, {4, 6, 3}, {5, 4, 9}, {6, 5, 4, 6, 3, 9}}
}

// mustTellSharing holds that x tells what an index over sharing tells.
func mustTellSharing(t *testing.T, x *index.Index) {
	t.Helper()
	if got := x.Size(); got != 5 {
		t.Errorf("Size: %d, and not 5", got)
	}
	events, want := asked()
	for k, e := range events {
		if got := x.Meet(e); !slices.Equal(got, want[k]) {
			t.Errorf("%+v meets %v, and not %v", e, got, want[k])
		}
	}
}

// paddedRow tells l with spare room behind it, and behind each filter, which is marked.
func paddedRow(l []api.Entry) []api.Entry {
	mark := slices.Repeat(row(exists("b")), 3)
	out := slices.Clone(l)
	for range 3 {
		out = append(out, entry(-77, slices.Clone(mark)...))
	}
	out = slices.Clip(out)
	for k, n := range l {
		out[k].Filter = slices.Concat(n.Filter, mark)[:len(n.Filter)]
	}
	return out[:len(l)]
}

// paddedEvent tells e with spare room behind it, which is marked.
func paddedEvent(e []api.Attr) []api.Attr {
	return slices.Concat(e, having(attr("a", num(9)), attr("b", num(9)), attr("c", text("x"))))[:len(e)]
}

// allRoom tells l with its spare room as part of it, in new memory.
func allRoom(l []api.Entry) []api.Entry {
	out := slices.Clone(l[:cap(l)])
	for k, n := range out {
		out[k].Filter = slices.Clone(n.Filter[:cap(n.Filter)])
	}
	return out
}

// fill overwrites a list and its spare room.
func fill[T any](l []T, with T) {
	l = l[:cap(l)]
	for k := range l {
		l[k] = with
	}
}

// P12.3: what is handed in stays, its spare room too.
func TestArgumentsStay(t *testing.T) {
	given := paddedRow(sharing())
	kept := allRoom(given)
	events, _ := asked()
	for range 2 {
		x := index.Build(given)
		for _, e := range events {
			e = paddedEvent(e)
			was := slices.Clone(e[:cap(e)])
			x.Meet(e)
			x.Meet(e)
			if !slices.Equal(e[:cap(e)], was) {
				t.Errorf("%+v became %+v", was, e[:cap(e)])
			}
		}
		x.Size()
		mustTellSharing(t, x)
		if !reflect.DeepEqual(allRoom(given), kept) {
			t.Errorf("%+v\nbecame %+v", kept, allRoom(given))
		}
	}
}

// P12.3: entries and filters that are changed behind Build change nothing, in whatever way.
func TestEntriesAreNotKept(t *testing.T) {
	for name, change := range map[string]func(l []api.Entry){
		"nothing":      func(l []api.Entry) {},
		"all":          func(l []api.Entry) { fill(l, entry(-99, exists("b"))) },
		"Ids":          func(l []api.Entry) { l[0].Id, l[3].Id = 77, 78 },
		"order":        func(l []api.Entry) { slices.Reverse(l) },
		"filters":      func(l []api.Entry) { l[0].Filter, l[2].Filter = nil, row(exists("d")) },
		"predicates":   func(l []api.Entry) { spoilFilters(l, exists("d")) },
		"wrong ones":   func(l []api.Entry) { spoilFilters(l, api.Pred{}) },
		"right ones":   func(l []api.Entry) { spoilFilters(l, exists("b")) },
		"a name":       func(l []api.Entry) { l[0].Filter[1].Name = "c" },
		"an Op":        func(l []api.Entry) { l[0].Filter[0].Op = api.OpLt },
		"a kind":       func(l []api.Entry) { l[0].Filter[0].Value.Kind = api.KindBool },
		"an int":       func(l []api.Entry) { l[0].Filter[0].Value.Int = 40 },
		"a text":       func(l []api.Entry) { l[1].Filter[1].Value.Text = "z" },
		"longer lists": func(l []api.Entry) { l[7].Filter = append(l[7].Filter, exists("d")) },
	} {
		t.Run(name, func(t *testing.T) {
			given := paddedRow(sharing())
			x := index.Build(given)
			change(given)
			mustTellSharing(t, x)
			// Between two Meets as well as behind Build.
			given = paddedRow(sharing())
			x = index.Build(given)
			mustTellSharing(t, x)
			change(given)
			mustTellSharing(t, x)
		})
	}
}

// spoilFilters overwrites each predicate of l, spare room too.
func spoilFilters(l []api.Entry, with api.Pred) {
	for _, n := range l {
		fill(n.Filter, with)
	}
}

// P12.3: an event that is changed behind Meet changes neither what was answered nor what is answered then.
func TestEventsAreNotKept(t *testing.T) {
	x := index.Build(sharing())
	events, want := asked()
	for k, e := range events {
		given := paddedEvent(e)
		first := x.Meet(given)
		fill(given, attr("b", num(1)))
		if !slices.Equal(first, want[k]) {
			t.Errorf("what %+v meets became %v, and was %v", e, first, want[k])
		}
		mustTellSharing(t, x)
		// The same memory is another event, and then again the first one.
		given = paddedEvent(events[7])
		for range 2 {
			if got := x.Meet(given); !slices.Equal(got, want[7]) {
				t.Errorf("%+v meets %v, and not %v", given, got, want[7])
			}
			given[1].Name = "bb"
			if got := x.Meet(given); !slices.Equal(got, want[5]) {
				t.Errorf("%+v meets %v, and not %v", given, got, want[5])
			}
			given[1].Name = "b"
		}
	}
}

// P12.3: what is answered is new memory, its spare room too.
func TestAnswersAreNewMemory(t *testing.T) {
	given := paddedRow(sharing())
	kept := allRoom(given)
	x, other := index.Build(given), index.Build(given)
	events, want := asked()
	for k, e := range events {
		e = paddedEvent(e)
		was := slices.Clone(e[:cap(e)])
		first, second := x.Meet(e), x.Meet(e)
		fill(second, -88)
		if !slices.Equal(first, want[k]) {
			t.Errorf("what %+v meets became %v, and was %v", e, first, want[k])
		}
		mustTellSharing(t, x)
		if third := x.Meet(e); !slices.Equal(first, want[k]) || !slices.Equal(third, want[k]) {
			t.Errorf("%+v meets %v, and behind other events %v, and not %v", e, first, third, want[k])
		}
		fill(first, -88)
		if !slices.Equal(e[:cap(e)], was) || !reflect.DeepEqual(allRoom(given), kept) {
			t.Errorf("what %+v meets is what was handed in", e)
		}
		mustTellSharing(t, x)
		mustTellSharing(t, other)
	}
}

// P12.3: one index knows nothing of another one, over the same memory too.
func TestIndexesStandApart(t *testing.T) {
	l := sharing()
	x := index.Build(l)
	l[0].Filter[0] = exists("d")
	l[7].Id = 8
	y := index.Build(l)
	none := index.Build(nil)
	e := having(attr("a", num(4)), attr("b", num(0)))
	for range 3 {
		mustTellSharing(t, x)
		if got := y.Meet(e); y.Size() != 6 || !slices.Equal(got, []int{4, 6, 8}) {
			t.Errorf("%+v meets %v of %d", e, got, y.Size())
		}
		if got := none.Meet(e); none.Size() != 0 || len(got) != 0 {
			t.Errorf("%+v meets %v of none", e, got)
		}
	}
}
