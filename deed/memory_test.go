package deed_test

import (
	"bytes"
	"reflect"
	"slices"
	"testing"

	"rosette/api"
	"rosette/deed"
	"rosette/table"
	"rosette/wire"
)

// paddedFilter tells f with spare room behind it, which is marked.
func paddedFilter(f []api.Pred, mark int) []api.Pred {
	return slices.Concat(f, slices.Repeat(row(ask("mark", mark, num(mark))), 3))[:len(f)]
}

// paddedDeed tells d with spare room behind its filter, which is marked.
func paddedDeed(d api.Deed, mark int) api.Deed {
	d.Filter = paddedFilter(d.Filter, mark)
	return d
}

// paddedDeeds tells l with spare room behind it, and behind each filter.
func paddedDeeds(l []api.Deed, mark int) []api.Deed {
	room := func() api.Deed { return enter(api.DoSub, mark, mark, exists("mark")) }
	out := slices.Concat(l, []api.Deed{room(), room(), room()})
	for k := range l {
		out[k] = paddedDeed(out[k], mark)
	}
	return out[:len(l)]
}

// padded tells s with spare room behind each of its rows, which is marked.
func padded(s api.State, mark int) api.State {
	entry := func() api.Entry { return api.Entry{Id: mark, From: mark, Filter: row(exists("mark"))} }
	s.Links = slices.Concat(s.Links, slices.Repeat([]api.Link{{Id: mark, Addr: "mark"}}, 3))[:len(s.Links)]
	for _, l := range rowsOf(&s) {
		room := slices.Concat(*l, []api.Entry{entry(), entry(), entry()})
		for k := range *l {
			room[k].Filter = paddedFilter(room[k].Filter, mark)
		}
		*l = room[:len(*l)]
	}
	return s
}

// allRoom tells s with its spare room as part of it, in new memory.
func allRoom(s api.State) api.State {
	s.Links = slices.Clone(s.Links[:cap(s.Links)])
	for _, l := range rowsOf(&s) {
		*l = slices.Clone((*l)[:cap(*l)])
		for k, n := range *l {
			(*l)[k].Filter = slices.Clone(n.Filter[:cap(n.Filter)])
		}
	}
	return s
}

// allRoomOfDeeds tells l with its spare room as part of it, in new memory.
func allRoomOfDeeds(l []api.Deed) []api.Deed {
	out := slices.Clone(l[:cap(l)])
	for k, d := range out {
		out[k].Filter = slices.Clone(d.Filter[:cap(d.Filter)])
	}
	return out
}

// spoilFilter overwrites f, its spare room too.
func spoilFilter(f []api.Pred) {
	f = f[:cap(f)]
	for k := range f {
		f[k] = ask("spoilt", -99, text("spoilt"))
	}
}

// spoilDeeds overwrites all that can be reached from l, its spare room too.
func spoilDeeds(l []api.Deed) {
	l = l[:cap(l)]
	for k, d := range l {
		spoilFilter(d.Filter)
		l[k] = api.Deed{Kind: -99, Id: -99, Addr: "spoilt"}
	}
}

// spoil overwrites all that can be reached from s, its spare room too.
func spoil(s api.State) {
	links := s.Links[:cap(s.Links)]
	for k := range links {
		links[k] = api.Link{Id: -99, Addr: "spoilt"}
	}
	for _, l := range rowsOf(&s) {
		room := (*l)[:cap(*l)]
		for k, n := range room {
			spoilFilter(n.Filter)
			room[k] = api.Entry{Id: -99, From: -99}
		}
	}
}

// block is a piece of memory.
type block struct{ from, to uintptr }

// blockOf tells the memory of a list, its spare room too.
func blockOf[T any](l []T) block {
	v := reflect.ValueOf(l)
	return block{v.Pointer(), v.Pointer() + uintptr(v.Cap())*v.Type().Elem().Size()}
}

// blocksOf tells the memory of all lists that can be reached from s, those in spare room too.
func blocksOf(s api.State) []block {
	out := []block{blockOf(s.Links)}
	for _, l := range rowsOf(&s) {
		out = append(out, blockOf(*l))
		for _, n := range (*l)[:cap(*l)] {
			out = append(out, blockOf(n.Filter))
		}
	}
	return out
}

// blocksOfDeeds tells the memory of all lists that can be reached from l, those in spare room too.
func blocksOfDeeds(l ...api.Deed) []block {
	out := []block{blockOf(l)}
	for _, d := range l[:cap(l)] {
		out = append(out, blockOf(d.Filter))
	}
	return out
}

// apart tells if no two of l share memory.
func apart(l []block) bool {
	l = slices.DeleteFunc(l, func(b block) bool { return b.from == b.to })
	slices.SortFunc(l, func(a, b block) int {
		if a.from < b.from {
			return -1
		}
		return 1
	})
	for k := range l {
		if k > 0 && l[k-1].to > l[k].from {
			return false
		}
	}
	return true
}

// someDeeds tells deeds that are done, of each Kind and in loose forms, and such as have an error.
func someDeeds() []api.Deed {
	out := deedsOfEachEnd()
	for _, kind := range entering {
		for _, f := range looseFilters() {
			out = append(out, enter(kind, 7, 5, f.given...))
		}
		for _, f := range rightFilters() {
			out = append(out, enter(kind, 1, 2, f...), enter(kind, most, 11, f...))
		}
		for _, f := range wrongFilters() {
			out = append(out, enter(kind, 7, 5, f.given...))
		}
	}
	return append(out, wrongDeeds()...)
}

// P10.6: what Norm is handed stays, and what it tells is new memory.
func TestNormsMemory(t *testing.T) {
	for _, d := range someDeeds() {
		given := []api.Deed{paddedDeed(d, 3)}[:1:1]
		kept := allRoomOfDeeds(given)
		got, err := deed.Norm(given[0])
		again, _ := deed.Norm(given[0])
		if !reflect.DeepEqual(allRoomOfDeeds(given), kept) {
			t.Errorf("Norm of %+v changed it to %+v", d, given[0])
		}
		if !apart([]block{blockOf(given[0].Filter), blockOf(got.Filter), blockOf(again.Filter)}) {
			t.Errorf("Norm of %+v shares memory", d)
		}
		want, wantErr := expectedNorm(d)
		spoilFilter(got.Filter)
		if !reflect.DeepEqual(allRoomOfDeeds(given), kept) || !alike(again, want) {
			t.Errorf("Norm of %+v: what it told is what it was handed", d)
		}
		spoilDeeds(given)
		if !alike(again, want) || err != wantErr {
			t.Errorf("Norm of %+v: what it told is what it was handed", d)
		}
	}
}

// P10.6: what Do is handed stays, and what it tells is new memory, in all depths.
func TestDosMemory(t *testing.T) {
	for _, s := range []api.State{{}, good(), linked(15), crowded(63, 64)} {
		for _, d := range someDeeds() {
			given, deeds := padded(table.Copy(s), 4), []api.Deed{paddedDeed(d, 5)}[:1:1]
			kept, keptDeeds := allRoom(given), allRoomOfDeeds(deeds)
			got, err := deed.Do(given, deeds[0])
			again, _ := deed.Do(given, deeds[0])
			want, wantErr := expectedDo(s, d)
			if !reflect.DeepEqual(allRoom(given), kept) || !reflect.DeepEqual(allRoomOfDeeds(deeds), keptDeeds) {
				t.Errorf("Do of %+v on %+v changed them", d, s)
			}
			if !apart(slices.Concat(blocksOf(given), blocksOfDeeds(deeds...), blocksOf(got), blocksOf(again))) {
				t.Errorf("Do of %+v on %+v shares memory", d, s)
			}
			spoil(got)
			if !reflect.DeepEqual(allRoom(given), kept) || !reflect.DeepEqual(allRoomOfDeeds(deeds), keptDeeds) || !table.Same(again, want) {
				t.Errorf("Do of %+v on %+v: what it told is what it was handed", d, s)
			}
			spoil(given)
			spoilDeeds(deeds)
			if !table.Same(again, want) || err != wantErr {
				t.Errorf("Do of %+v on %+v: what it told is what it was handed", d, s)
			}
		}
	}
}

// P10.6: what Fold is handed stays, and what it tells is new memory, in all depths, of whatever row of deeds.
func TestFoldsMemory(t *testing.T) {
	done, _ := all()
	f := row(exists("b"), exists("a"))
	rows := [][]api.Deed{
		nil, done, {{}}, append(slices.Clone(done), api.Deed{}), done[5:],
		// Deeds that share one filter.
		{link(1, ""), enter(api.DoSub, 1, 1, f...), enter(api.DoSub, 2, 1, f...), enter(api.DoAdvert, 1, 1, f...), enter(api.DoAdvert, 2, 1, f[:1]...)},
		// What was taken away leaves nothing in spare room.
		{leave(api.DoUnsub, 6), leave(api.DoUnadvert, 3), leave(api.DoUnadvert, 6), enter(api.DoAdvert, 1, 5, f...), leave(api.DoUnsub, 4), leave(api.DoUnsub, 77)},
	}
	for _, s := range []api.State{{}, good()} {
		for _, l := range rows {
			given, deeds := padded(table.Copy(s), 4), paddedDeeds(l, 5)
			kept, keptDeeds := allRoom(given), allRoomOfDeeds(deeds)
			want, n, wantErr := deed.Fold(s, l)
			got, _, _ := deed.Fold(given, deeds)
			again, m, err := deed.Fold(given, deeds)
			if !table.Same(got, want) || !table.Same(again, want) || m != n || err != wantErr {
				t.Errorf("Fold of %+v on %+v: %+v, and then %+v", l, s, got, again)
			}
			if !reflect.DeepEqual(allRoom(given), kept) || !reflect.DeepEqual(allRoomOfDeeds(deeds), keptDeeds) {
				t.Errorf("Fold of %+v on %+v changed them", l, s)
			}
			if !apart(slices.Concat(blocksOf(given), blocksOfDeeds(deeds...), blocksOf(got), blocksOf(again))) {
				t.Errorf("Fold of %+v on %+v shares memory", l, s)
			}
			spoil(got)
			if !reflect.DeepEqual(allRoom(given), kept) || !reflect.DeepEqual(allRoomOfDeeds(deeds), keptDeeds) {
				t.Errorf("Fold of %+v on %+v: what it told is what it was handed", l, s)
			}
			spoil(given)
			spoilDeeds(deeds)
			if !table.Same(again, want) {
				t.Errorf("Fold of %+v on %+v: what it told is what it was handed", l, s)
			}
		}
	}
}

// P10.6: deeds of one filter, one of which is changed in what is told.
func TestFoldOfSharedFilter(t *testing.T) {
	f := row(exists("a"), exists("b"))
	l := []api.Deed{link(1, ""), enter(api.DoSub, 1, 1, f...), enter(api.DoSub, 2, 1, f...), enter(api.DoAdvert, 1, 1, f...)}
	l[1].Filter, l[2].Filter, l[3].Filter = f, f, f
	got, _, err := deed.Fold(api.State{}, l)
	if err != api.OK {
		t.Fatal(err)
	}
	got.Subs[0].Filter[0] = exists("z")
	_ = append(got.Subs[0].Filter, exists("y"))
	if got.Subs[1].Filter[0] != exists("a") || got.Advs[0].Filter[0] != exists("a") || f[0] != exists("a") {
		t.Errorf("entries of one filter share it: %+v", got)
	}
}

// P10.6: what Put is handed stays, its spare room too, and what it tells is new memory.
func TestPutsMemory(t *testing.T) {
	for _, length := range []int{0, 1, 9} {
		for _, d := range slices.Concat(rightDeeds()[:60], wrongDeeds()) {
			whole := bytes.Repeat([]byte{0x5a}, length+400)
			before := bytes.Clone(whole)
			given := []api.Deed{paddedDeed(d, 3)}[:1:1]
			kept := allRoomOfDeeds(given)
			first, second := deed.Put(whole[:length], given[0]), deed.Put(whole[:length], given[0])
			want := bytes.Clone(second)
			clear(first[:cap(first)])
			if !bytes.Equal(whole, before) || !bytes.Equal(second, want) || !reflect.DeepEqual(allRoomOfDeeds(given), kept) {
				t.Errorf("Put of %+v behind %d bytes shares what it answers", d, length)
			}
			clear(whole)
			if !bytes.Equal(second, want) || !apart([]block{blockOf(whole), blockOf(first), blockOf(second)}) {
				t.Errorf("Put of %+v behind %d bytes keeps what it was handed", d, length)
			}
		}
	}
}

// P10.6: what Get tells is new memory.
func TestGetsMemory(t *testing.T) {
	for _, d := range rightDeeds() {
		b := deed.Put(deed.Put(nil, d), d)
		before := bytes.Clone(b)
		s, other := wire.On(b), wire.On(b)
		got, again, third := deed.Get(s), deed.Get(s), deed.Get(other)
		if !apart([]block{blockOf(got.Filter), blockOf(again.Filter), blockOf(third.Filter)}) {
			t.Errorf("Get of %+v shares memory", d)
		}
		spoilFilter(got.Filter)
		if !bytes.Equal(b, before) || !alike(again, d) || !alike(third, d) || !alike(deed.Get(other), d) {
			t.Errorf("Get of %+v: what it told is what it was handed", d)
		}
		clear(b)
		if !alike(again, d) || got.Addr != d.Addr {
			t.Errorf("Get of %+v: what it told is what it was handed", d)
		}
	}
}
