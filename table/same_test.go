package table_test

import (
	"fmt"
	"math/rand"
	"reflect"
	"slices"
	"strings"
	"testing"

	"rosette/api"
	"rosette/table"
)

// twist is one change of a state.
type twist struct {
	what string
	do   func(s *api.State)
}

// linkTwists tells the changes of one field of one link, and of one link more or less.
func linkTwists(s api.State) []twist {
	out := []twist{}
	add := func(what string, do func(s *api.State)) { out = append(out, twist{what, do}) }
	for k := range s.Links {
		at := fmt.Sprint("link ", k)
		add(at+" Id", func(s *api.State) { s.Links[k].Id += 100 })
		add(at+" Id wraps", func(s *api.State) { s.Links[k].Id += 1 << 32 })
		add(at+" Addr more", func(s *api.State) { s.Links[k].Addr += "\x00" })
		add(at+" Addr other", func(s *api.State) { s.Links[k].Addr = "Z" + s.Links[k].Addr })
		add(at+" gone", func(s *api.State) { s.Links = slices.Delete(s.Links, k, k+1) })
		add(at+" twice", func(s *api.State) { s.Links = slices.Insert(s.Links, k, s.Links[k]) })
	}
	add("a link more", func(s *api.State) { s.Links = append(s.Links, api.Link{}) })
	if len(s.Links) > 0 {
		add("no links", func(s *api.State) { s.Links = nil })
	}
	if len(s.Links) > 1 {
		add("links turned round", func(s *api.State) { slices.Reverse(s.Links) })
	}
	return out
}

// predTwists tells the changes of one field of one predicate, and of one more or less, of an entry.
func predTwists(at string, e api.Entry, of func(s *api.State) *api.Entry) []twist {
	out := []twist{}
	add := func(what string, do func(e *api.Entry)) {
		out = append(out, twist{at + what, func(s *api.State) { do(of(s)) }})
	}
	for k := range e.Filter {
		p := fmt.Sprint(" predicate ", k)
		add(p+" Name", func(e *api.Entry) { e.Filter[k].Name += "\x00" })
		add(p+" Op", func(e *api.Entry) { e.Filter[k].Op += 100 })
		add(p+" Kind", func(e *api.Entry) { e.Filter[k].Value.Kind += 100 })
		add(p+" Int", func(e *api.Entry) { e.Filter[k].Value.Int += 1 << 40 })
		add(p+" Text", func(e *api.Entry) { e.Filter[k].Value.Text += "\x00" })
		add(p+" gone", func(e *api.Entry) { e.Filter = slices.Delete(e.Filter, k, k+1) })
		add(p+" twice", func(e *api.Entry) { e.Filter = slices.Insert(e.Filter, k, e.Filter[k]) })
	}
	add(" a predicate more", func(e *api.Entry) { e.Filter = append(e.Filter, api.Pred{}) })
	if len(e.Filter) > 0 {
		add(" no predicates", func(e *api.Entry) { e.Filter = nil })
	}
	if len(e.Filter) > 1 {
		add(" predicates turned round", func(e *api.Entry) { slices.Reverse(e.Filter) })
	}
	return out
}

// entryTwists tells the changes of one field of one entry, and of one more or less, of one of both rows.
func entryTwists(s api.State, side int) []twist {
	out := []twist{}
	add := func(what string, do func(l *[]api.Entry)) {
		out = append(out, twist{what, func(s *api.State) { do(sides(s)[side]) }})
	}
	l := *sides(&s)[side]
	for k, e := range l {
		at := fmt.Sprint("row ", side, " entry ", k)
		add(at+" Id", func(l *[]api.Entry) { (*l)[k].Id += 100 })
		add(at+" From", func(l *[]api.Entry) { (*l)[k].From += 1 << 32 })
		add(at+" gone", func(l *[]api.Entry) { *l = slices.Delete(*l, k, k+1) })
		add(at+" twice", func(l *[]api.Entry) { *l = slices.Insert(*l, k, (*l)[k]) })
		out = append(out, predTwists(at, e, func(s *api.State) *api.Entry { return &(*sides(s)[side])[k] })...)
	}
	add(fmt.Sprint("row ", side, " an entry more"), func(l *[]api.Entry) { *l = append(*l, api.Entry{}) })
	if len(l) > 0 {
		add(fmt.Sprint("row ", side, " none"), func(l *[]api.Entry) { *l = nil })
	}
	if len(l) > 1 {
		add(fmt.Sprint("row ", side, " turned round"), func(l *[]api.Entry) { slices.Reverse(*l) })
	}
	return out
}

// twists tells changes of s, each of one thing alone, wherever it lies.
func twists(s api.State) []twist {
	out := []twist{
		{"Epoch", func(s *api.State) { s.Epoch++ }},
		{"Epoch wraps", func(s *api.State) { s.Epoch += 1 << 32 }},
	}
	out = append(out, linkTwists(s)...)
	out = append(out, entryTwists(s, 0)...)
	return append(out, entryTwists(s, 1)...)
}

// wrongState tells a state that is right in nothing.
func wrongState() api.State {
	return api.State{
		Epoch: -7,
		Links: []api.Link{{Id: 9, Addr: strings.Repeat("x", 40)}, {Id: 9}, {Id: -1, Addr: "a"}},
		Advs:  []api.Entry{{Id: 8, From: 99, Filter: without(30)}, {Id: 8, Filter: row(api.Pred{})}, {}},
		Subs:  []api.Entry{{Id: api.MaxInt, From: api.MinInt, Filter: row(exists("b"), exists("a"), ask("a", 99, api.Value{Kind: 9, Int: -9, Text: "t"}))}},
	}
}

// makers tells states, each time in new memory.
func makers() []func() api.State {
	return []func() api.State{good, full, wrongState, func() api.State { return api.State{} }, func() api.State { return api.State{Links: rising(1)} }, func() api.State { return api.State{Epoch: 1, Subs: entries(2, 1)} }}
}

// mustCompare holds that Same of a and b is so, from both sides.
func mustCompare(t *testing.T, a, b api.State, want bool, what string) {
	t.Helper()
	if table.Same(a, b) != want || table.Same(b, a) != want {
		t.Errorf("Same: not %v, of %s in %+v", want, what, a)
	}
}

// P9.3: states that are alike, though each has memory of its own.
func TestSame(t *testing.T) {
	for k, a := range makers() {
		for m, b := range makers() {
			mustCompare(t, a(), b(), k == m, fmt.Sprint("states ", k, " and ", m))
		}
		s := a()
		mustCompare(t, s, s, true, "the state itself")
	}
}

// P9.3: states that part in one thing alone.
func TestSameOfTwists(t *testing.T) {
	for _, makes := range []func() api.State{good, wrongState, makers()[3], makers()[4], makers()[5]} {
		for _, x := range twists(makes()) {
			s, other := makes(), makes()
			x.do(&s)
			mustCompare(t, s, makes(), false, x.what)
			x.do(&other)
			mustCompare(t, s, other, true, x.what+" in both")
		}
	}
	// What stands in one row is not what stands in the other.
	s := good()
	s.Advs, s.Subs = s.Subs, s.Advs
	mustCompare(t, s, good(), false, "Advs and Subs in the other's place")
	s = api.State{Links: rising(1), Advs: entries(1, 1)}
	mustCompare(t, s, api.State{Links: rising(1), Subs: entries(1, 1)}, false, "an entry in the other row")
	// A filter's predicates are no other entry's.
	a := api.State{Subs: []api.Entry{{Id: 1, Filter: row(exists("a"))}, {Id: 2}}}
	b := api.State{Subs: []api.Entry{{Id: 1}, {Id: 2, Filter: row(exists("a"))}}}
	mustCompare(t, a, b, false, "a predicate in another entry")
}

// P9.3: no two twists of one state are alike but where they come to the same.
func TestSameOfEachTwist(t *testing.T) {
	made := []api.State{}
	for _, x := range twists(good()) {
		s := good()
		x.do(&s)
		made = append(made, s)
	}
	for _, a := range made {
		for _, b := range made {
			mustCompare(t, a, b, reflect.DeepEqual(emptied(a), emptied(b)), "two twists")
		}
	}
}

// emptied tells s with no nil row in it, so that what is alike is deeply equal.
func emptied(s api.State) api.State {
	s.Links = append([]api.Link{}, s.Links...)
	for _, l := range sides(&s) {
		*l = append([]api.Entry{}, *l...)
		for k := range *l {
			(*l)[k].Filter = append([]api.Pred{}, (*l)[k].Filter...)
		}
	}
	return s
}

// P9.3: a nil row and an empty one are the same, in all depths.
func TestSameOfEmptyRows(t *testing.T) {
	for _, s := range []api.State{{Links: []api.Link{}}, {Advs: []api.Entry{}}, {Subs: []api.Entry{}}, {Links: []api.Link{}, Advs: []api.Entry{}, Subs: []api.Entry{}}, {Links: rising(3)[:0], Advs: entries(3, 1)[:0], Subs: entries(3, 1)[:0]}} {
		mustCompare(t, s, api.State{}, true, "empty rows")
	}
	for k := range 2 {
		a, b, c := good(), good(), good()
		(*sides(&a)[k])[1].Filter = nil
		(*sides(&b)[k])[1].Filter = []api.Pred{}
		(*sides(&c)[k])[1].Filter = row(exists("q"))[:0]
		mustCompare(t, a, b, true, "no filter")
		mustCompare(t, a, c, true, "no filter")
		mustCompare(t, b, c, true, "no filter")
	}
}

// P9.3: Same looks at no spare room.
func TestSameOfSpareRoom(t *testing.T) {
	for _, makes := range makers() {
		mustCompare(t, padded(makes(), 1), padded(makes(), 2), true, "other spare room")
		mustCompare(t, padded(makes(), 1), makes(), true, "spare room")
	}
}

// P9.3: what Copy tells is the same, whatever the state is.
func TestCopy(t *testing.T) {
	draw := rand.New(rand.NewSource(93))
	made := makers()
	for range 2000 {
		s := drawn(draw)
		made = append(made, func() api.State { return s })
	}
	for _, makes := range made {
		got := table.Copy(makes())
		mustCompare(t, got, makes(), true, "a copy")
		if !reflect.DeepEqual(emptied(got), emptied(makes())) {
			t.Errorf("Copy of %+v: %+v", makes(), got)
		}
		mustCompare(t, table.Copy(padded(got, 3)), makes(), true, "a copy's copy")
	}
	for _, x := range twists(good()) {
		s := good()
		x.do(&s)
		if got := table.Copy(s); !reflect.DeepEqual(emptied(got), emptied(s)) {
			t.Errorf("Copy with %s: %+v", x.what, got)
		}
	}
}

// padded tells s with spare room behind each of its rows, which is marked.
func padded(s api.State, mark int) api.State {
	entry := func() api.Entry { return api.Entry{Id: mark, From: mark, Filter: row(exists("mark"))} }
	s.Links = slices.Concat(s.Links, slices.Repeat([]api.Link{{Id: mark, Addr: "mark"}}, 3))[:len(s.Links)]
	for _, l := range sides(&s) {
		room := slices.Concat(*l, []api.Entry{entry(), entry(), entry()})
		for k := range *l {
			f := room[k].Filter
			room[k].Filter = slices.Concat(f, slices.Repeat(row(ask("mark", mark, num(mark))), 3))[:len(f)]
		}
		*l = room[:len(*l)]
	}
	return s
}

// allRoom tells s with its spare room as part of it, in new memory.
func allRoom(s api.State) api.State {
	s.Links = s.Links[:cap(s.Links)]
	for _, l := range sides(&s) {
		*l = slices.Clone((*l)[:cap(*l)])
		for k := range *l {
			f := (*l)[k].Filter
			(*l)[k].Filter = f[:cap(f)]
		}
	}
	return emptied(s)
}

// spoil overwrites all that can be reached from s, its spare room too.
func spoil(s api.State) {
	l := s.Links[:cap(s.Links)]
	for k := range l {
		l[k] = api.Link{Id: -99, Addr: "spoilt"}
	}
	for _, l := range sides(&s) {
		spoilEntries(*l)
	}
}

// spoilEntries overwrites all that can be reached from l, its spare room too.
func spoilEntries(l []api.Entry) {
	l = l[:cap(l)]
	for k := range l {
		spoilFilter(l[k].Filter)
		l[k] = api.Entry{Id: -99, From: -99}
	}
}

// spoilFilter overwrites f, its spare room too.
func spoilFilter(f []api.Pred) {
	f = f[:cap(f)]
	for k := range f {
		f[k] = ask("spoilt", -99, text("spoilt"))
	}
}

// block is a piece of memory.
type block struct{ from, to uintptr }

// blockOf tells the memory of a list, its spare room too.
func blockOf[T any](l []T) block {
	v := reflect.ValueOf(l)
	return block{v.Pointer(), v.Pointer() + uintptr(v.Cap())*v.Type().Elem().Size()}
}

// blocksOf tells the memory of all lists that can be reached from s, those in spare room too.
func blocksOf(s api.State) []block {
	out := []block{blockOf(s.Links)}
	for _, l := range sides(&s) {
		out = append(out, blockOf(*l))
		for _, e := range (*l)[:cap(*l)] {
			out = append(out, blockOf(e.Filter))
		}
	}
	return out
}

// apart tells if no two of l share memory.
func apart(l []block) bool {
	l = slices.DeleteFunc(l, func(b block) bool { return b.from == b.to })
	slices.SortFunc(l, func(a, b block) int {
		if a.from < b.from {
			return -1
		}
		return 1
	})
	for k := range l {
		if k > 0 && l[k-1].to > l[k].from {
			return false
		}
	}
	return true
}

// P9.4: what is handed in stays as it is, and its spare room.
func TestArgumentsStay(t *testing.T) {
	for _, makes := range makers() {
		given, other := padded(makes(), 4), padded(makes(), 5)
		kept, otherKept := allRoom(given), allRoom(other)
		for range 2 {
			table.Right(given)
			table.Same(given, other)
			table.Same(given, given)
			table.Copy(given)
			for id := range 12 {
				table.Link(given, id)
				table.Find(given.Advs, id)
				table.Find(given.Subs, id)
			}
		}
		if !reflect.DeepEqual(allRoom(given), kept) || !reflect.DeepEqual(allRoom(other), otherKept) {
			t.Errorf("changed: %+v", makes())
		}
	}
}

// P9.4: what Copy tells shares no memory with what was handed in, nor two rows of it any.
func TestCopyIsNewMemory(t *testing.T) {
	for _, makes := range makers() {
		given := padded(makes(), 6)
		kept := allRoom(given)
		got, again := table.Copy(given), table.Copy(given)
		if !apart(slices.Concat(blocksOf(given), blocksOf(got), blocksOf(again))) {
			t.Errorf("Copy of %+v shares memory", makes())
		}
		spoil(got)
		if !reflect.DeepEqual(allRoom(given), kept) || !table.Same(again, makes()) {
			t.Errorf("Copy of %+v: what it told is what it was handed", makes())
		}
		spoil(given)
		if !table.Same(again, makes()) {
			t.Errorf("Copy of %+v: what it told is what it was handed", makes())
		}
		mustCompare(t, table.Copy(makes()), makes(), true, "a later copy")
	}
}

// P9.4: rows of what is handed in may be one memory; those of a copy are not.
func TestCopyOfSharedRows(t *testing.T) {
	f := row(exists("a"), exists("b"), exists("c"))
	l := []api.Entry{{Id: 1, From: 1, Filter: f[:1]}, {Id: 2, From: 1, Filter: f[:2]}, {Id: 3, From: 1, Filter: f[:0]}}
	s := api.State{Links: rising(1), Advs: l[:2], Subs: l}
	got := table.Copy(s)
	if !table.Same(got, s) || !apart(slices.Concat(blocksOf(got), []block{blockOf(f), blockOf(l), blockOf(s.Links)})) {
		t.Errorf("Copy of rows that share memory: %+v", got)
	}
	got.Advs[0].Filter[0] = exists("z")
	got.Subs[1].Id = 77
	_ = append(got.Subs[2].Filter, exists("y"))
	if got.Subs[0].Filter[0] != exists("a") || got.Advs[1].Id != 2 || f[0] != exists("a") || l[1].Id != 2 {
		t.Errorf("the copy of rows that share memory shares it too: %+v", got)
	}
}

// P9.4: a copy's change in one field, wherever it lies, is none of the state's, and the other way round.
func TestCopyTwisted(t *testing.T) {
	for _, makes := range []func() api.State{good, wrongState} {
		for _, x := range twists(makes()) {
			s := makes()
			c := table.Copy(s)
			x.do(&c)
			mustCompare(t, s, makes(), true, x.what+" of the copy")
			mustCompare(t, c, s, false, x.what+" of the copy")
			s = makes()
			c = table.Copy(s)
			x.do(&s)
			mustCompare(t, c, makes(), true, x.what+" of the state")
			mustCompare(t, c, s, false, x.what+" of the state")
		}
	}
}

// P9.4: the Filter that Find tells is new memory, its spare room too.
func TestFindIsNewMemory(t *testing.T) {
	for _, makes := range makers() {
		for side := range 2 {
			for k, e := range *sides(new(makes()))[side] {
				given := padded(makes(), 7)
				kept := allRoom(given)
				got, ok := table.Find(*sides(&given)[side], e.Id)
				again, _ := table.Find(*sides(&given)[side], e.Id)
				if !ok || !apart(append(blocksOf(given), blockOf(got.Filter), blockOf(again.Filter))) {
					t.Errorf("Find of entry %d in row %d of %+v shares memory", k, side, makes())
				}
				want := slices.Clone(again.Filter)
				spoilFilter(got.Filter)
				_ = append(got.Filter, exists("y"))
				if !reflect.DeepEqual(allRoom(given), kept) || !slices.Equal(again.Filter, want) {
					t.Errorf("Find of entry %d in row %d of %+v: what it told is what it was handed", k, side, makes())
				}
				spoil(given)
				if !slices.Equal(again.Filter, want) {
					t.Errorf("Find of entry %d in row %d of %+v: what it told is what it was handed", k, side, makes())
				}
			}
		}
	}
}

// P9.4: nothing is kept: each call looks at what it is handed, as it is then.
func TestNothingIsKept(t *testing.T) {
	s := good()
	for range 2 {
		mustBe(t, s, true, "the state")
		mustLink(t, s, 5, &api.Link{Id: 5})
		mustFind(t, s.Subs, 7, &api.Entry{Id: 7, From: 5})
		table.Copy(s)
		s.Links[1].Id, s.Subs[2].Id = 6, 8
		mustBe(t, s, false, "entries From a link that is gone")
		mustLink(t, s, 5, nil)
		mustLink(t, s, 6, &api.Link{Id: 6})
		mustFind(t, s.Subs, 7, nil)
		mustFind(t, s.Subs, 8, &api.Entry{Id: 8, From: 5})
		mustCompare(t, table.Copy(s), good(), false, "a copy of the changed state")
		s.Links[1].Id, s.Subs[2].Id = 5, 7
		mustCompare(t, table.Copy(s), good(), true, "a copy of the state as it was")
	}
}
