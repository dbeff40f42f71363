package table_test

import (
	"math/rand"
	"slices"
	"strings"
	"testing"

	"rosette/api"
	"rosette/filter"
	"rosette/table"
)

func num(n int) api.Value { return api.Value{Kind: api.KindInt, Int: n} }

func text(s string) api.Value { return api.Value{Kind: api.KindText, Text: s} }

func boolean(n int) api.Value { return api.Value{Kind: api.KindBool, Int: n} }

func ask(name string, op int, v api.Value) api.Pred { return api.Pred{Name: name, Op: op, Value: v} }

// exists tells the predicate that asks for no more than an attribute of that name.
func exists(name string) api.Pred { return api.Pred{Name: name, Op: api.OpExists} }

// row tells a filter.
func row(l ...api.Pred) []api.Pred { return l }

// without tells the filter that asks for all ints but so many.
func without(n int) []api.Pred {
	out := []api.Pred{}
	for k := range n {
		out = append(out, ask("a", api.OpNe, num(10*k)))
	}
	return out
}

// rightFilters tells right filters: of no predicate, of one of each kind, of several, and of as many as may be.
func rightFilters() [][]api.Pred {
	return [][]api.Pred{
		nil, {}, row(exists("a")), row(exists("a"), exists("b")), row(ask("a", api.OpGe, num(4)), ask("a", api.OpLe, num(5))), row(ask("a", api.OpEq, boolean(1))),
		row(ask("a", api.OpGe, text("x")), ask("a", api.OpLt, text("y")), ask("b", api.OpNe, num(-3))), row(ask("a", api.OpEq, text(strings.Repeat("x", 32)))), row(exists(strings.Repeat("n", 16))), without(24),
	}
}

// wrongFilters tells filters that are not right, of each fault.
func wrongFilters() [][]api.Pred {
	return [][]api.Pred{
		// Turned round, and one predicate twice.
		row(exists("b"), exists("a")), row(ask("a", api.OpLe, num(5)), ask("a", api.OpGe, num(4))), row(exists("a"), exists("a")), row(exists("a"), exists("b"), exists("b")), row(ask("a", api.OpEq, num(1)), ask("a", api.OpEq, num(1))),
		// Not the one form.
		row(ask("a", api.OpGt, num(3))), row(ask("a", api.OpPrefix, text("x"))), row(exists("a"), ask("a", api.OpEq, num(1))), row(ask("a", api.OpLe, boolean(1))),
		// A wrong predicate, alone, and ahead of and behind right ones.
		row(api.Pred{}), row(exists("")), row(exists(strings.Repeat("n", 17))), row(ask("a", 9, num(1))), row(ask("a", api.OpExists, num(1))), row(ask("a", api.OpEq, text(strings.Repeat("x", 33)))), row(exists("a"), api.Pred{}), row(api.Pred{}, exists("a")),
		// An empty span.
		row(ask("a", api.OpLt, num(api.MinInt))), row(ask("a", api.OpLt, text(""))), row(ask("a", api.OpEq, num(1)), ask("a", api.OpEq, num(2))), row(exists("A"), ask("a", api.OpEq, num(1)), ask("a", api.OpEq, num(2))),
		// More than may be.
		without(25), without(40),
	}
}

// good tells a right state with something of each kind, each time in new memory.
func good() api.State {
	return api.State{
		Epoch: 9,
		Links: []api.Link{{Id: 2, Addr: "two"}, {Id: 5}, {Id: 8, Addr: "eight"}},
		Advs: []api.Entry{
			{Id: 3, From: 8, Filter: row(exists("a"))},
			{Id: 6, From: 2},
			{Id: 9, From: 2, Filter: row(ask("a", api.OpGe, num(4)), ask("a", api.OpLe, num(5)), ask("b", api.OpEq, text("x")))},
		},
		Subs: []api.Entry{
			{Id: 1, From: 5, Filter: row(ask("c", api.OpGe, text("x")), ask("c", api.OpLt, text("y")))},
			{Id: 6, From: 8, Filter: row(ask("a", api.OpEq, boolean(1)), exists("b"))},
			{Id: 7, From: 5, Filter: []api.Pred{}},
		},
	}
}

// sides tells the two rows of entries of s, which are asked the same.
func sides(s *api.State) []*[]api.Entry { return []*[]api.Entry{&s.Advs, &s.Subs} }

// mustBe holds that Right of s is so.
func mustBe(t *testing.T, s api.State, want bool, why ...any) {
	t.Helper()
	if got := table.Right(s); got != want {
		t.Errorf("Right: %v, of %v in %+v", got, why, s)
	}
}

// P9.1: the zero state, and others that are right.
func TestRight(t *testing.T) {
	mustBe(t, api.State{}, true, "the zero state")
	mustBe(t, api.State{Links: []api.Link{}, Advs: []api.Entry{}, Subs: []api.Entry{}}, true, "empty rows")
	mustBe(t, good(), true, "a state of all kinds")
	mustBe(t, api.State{Links: []api.Link{{Id: 1}}}, true, "one link")
	mustBe(t, full(), true, "as much as may be")
}

// P9.1: Epochs, of the zero state and of another.
func TestRightEpoch(t *testing.T) {
	for epoch, want := range map[int]bool{
		-1: false, 0: true, 1: true, 1 << 30: true, 1<<40 - 1: true, 1 << 40: true, 1<<40 + 1: false, 1 << 41: false, -1 << 40: false, api.MinInt: false, api.MaxInt: false,
	} {
		for _, s := range []api.State{{}, good()} {
			s.Epoch = epoch
			mustBe(t, s, want, "Epoch", epoch)
		}
	}
}

// rising tells so many links, whose Ids rise from 1 on.
func rising(n int) []api.Link {
	out := []api.Link{}
	for k := range n {
		out = append(out, api.Link{Id: k + 1})
	}
	return out
}

// P9.1: how many links there may be.
func TestRightLinks(t *testing.T) {
	for n := range 40 {
		mustBe(t, api.State{Links: rising(n)}, n <= 16, n, "links")
	}
	for _, n := range []int{8, 16, 17} {
		s := good()
		s.Links = rising(n)
		mustBe(t, s, n <= 16, n, "links")
	}
}

// idRows tells rows of Ids, and if they rise from 1 to 2^30.
func idRows() map[bool][][]int {
	const most = 1 << 30
	return map[bool][][]int{
		true: {{1}, {2}, {most}, {1, most}, {1, 2, 3}, {7, 100, most - 1, most}},
		false: {
			{0}, {-1}, {most + 1}, {api.MinInt}, {api.MaxInt}, {0, 1}, {-1, 1}, {-2, -1}, {1, most + 1}, {most, most + 1}, {1 << 32, 1<<32 + 1},
			{1, 1}, {most, most}, {1, 1, 2}, {1, 2, 2}, {1, 2, 2, 3},
			{2, 1}, {most, 1}, {1, 3, 2}, {2, 1, 3}, {3, 2, 1}, {1, 2, 1}, {1, 2, 0}, {5, 6, 7, 8, 4}, {5, 4, 6, 7, 8},
		},
	}
}

// P9.1: Ids of links rise strictly, from 1 to 2^30.
func TestRightLinkIds(t *testing.T) {
	for want, rows := range idRows() {
		for _, ids := range rows {
			s := api.State{}
			for _, id := range ids {
				s.Links = append(s.Links, api.Link{Id: id})
			}
			mustBe(t, s, want, "links of Ids", ids)
		}
	}
}

// P9.1: an Addr may have 32 bytes, of whatever link.
func TestRightAddr(t *testing.T) {
	for n := range 70 {
		for k := range 3 {
			for _, piece := range []string{"x", "\x00", "\xff"} {
				s := good()
				s.Links[k].Addr = strings.Repeat(piece, n)
				mustBe(t, s, n <= 32, "an Addr of", n, "bytes of link", k)
			}
		}
	}
	// It is the bytes that are counted.
	for text, want := range map[string]bool{strings.Repeat("\u00e4", 16): true, strings.Repeat("\u00e4", 17): false, strings.Repeat("\u20ac", 11): false} {
		s := good()
		s.Links[1].Addr = text
		mustBe(t, s, want, "an Addr of", len(text), "bytes")
	}
}

// entries tells so many entries from that link, whose Ids rise from 1 on.
func entries(n, from int) []api.Entry {
	out := []api.Entry{}
	for k := range n {
		out = append(out, api.Entry{Id: k + 1, From: from})
	}
	return out
}

// full tells a right state that has as much as may be.
func full() api.State {
	s := api.State{Epoch: 1 << 40}
	for k := range 16 {
		s.Links = append(s.Links, api.Link{Id: 1<<30 - 15 + k, Addr: strings.Repeat("x", 32)})
	}
	for _, l := range sides(&s) {
		for k := range 64 {
			*l = append(*l, api.Entry{Id: 1<<30 - 63 + k, From: s.Links[k%16].Id, Filter: without(24)})
		}
	}
	return s
}

// P9.1: how many entries there may be, of each of both rows.
func TestRightEntries(t *testing.T) {
	for k := range 2 {
		for n := range 130 {
			s := good()
			*sides(&s)[k] = entries(n, 5)
			mustBe(t, s, n <= 64, n, "entries of row", k)
			// As many as may be in the other row too.
			*sides(&s)[1-k] = entries(64, 2)
			mustBe(t, s, n <= 64, n, "entries of row", k, "beside 64")
		}
	}
}

// P9.1: Ids of entries rise strictly, from 1 to 2^30, of each of both rows.
func TestRightEntryIds(t *testing.T) {
	for want, rows := range idRows() {
		for _, ids := range rows {
			for k := range 2 {
				s := good()
				l := sides(&s)[k]
				*l = nil
				for _, id := range ids {
					*l = append(*l, api.Entry{Id: id, From: 5})
				}
				mustBe(t, s, want, "Ids", ids, "of row", k)
			}
		}
	}
	// One Id may stand in both rows, and be a link's too.
	s := api.State{Links: rising(3), Advs: entries(3, 1), Subs: entries(3, 2)}
	mustBe(t, s, true, "Ids that are in both rows")
	// Neither row goes on where the other one ends.
	s.Advs[2].Id = 1 << 30
	mustBe(t, s, true, "Ids of the second row below those of the first")
}

// P9.1: From is the Id of a link, of whatever entry.
func TestRightFrom(t *testing.T) {
	for from, want := range map[int]bool{2: true, 5: true, 8: true, 0: false, 1: false, 3: false, 4: false, 6: false, 7: false, 9: false, -2: false, 1 << 30: false, 1<<32 + 2: false, api.MinInt: false, api.MaxInt: false} {
		for k := range 2 {
			for m := range 3 {
				s := good()
				(*sides(&s)[k])[m].From = from
				mustBe(t, s, want, "From", from, "of entry", m, "of row", k)
			}
		}
	}
	// The Id of an entry is none of a link; without a link there is none.
	for k := range 2 {
		s := api.State{Links: []api.Link{{Id: 4}}}
		*sides(&s)[k] = []api.Entry{{Id: 3, From: 3}}
		mustBe(t, s, false, "From its own Id, in row", k)
		for from := range 5 {
			none := api.State{}
			*sides(&none)[k] = []api.Entry{{Id: 3, From: from}}
			mustBe(t, none, false, "From", from, "of no link at all, in row", k)
		}
		s.Links = nil
		*sides(&s)[1-k] = []api.Entry{{Id: 3, From: 3}}
		mustBe(t, s, false, "From an entry of the other row", k)
	}
}

// P9.1: filters that are right, and such as are not, of whatever entry.
func TestRightFilter(t *testing.T) {
	for k := range 2 {
		for m := range 3 {
			for _, f := range rightFilters() {
				s := good()
				(*sides(&s)[k])[m].Filter = f
				mustBe(t, s, true, "the filter", f, "of entry", m, "of row", k)
			}
			for _, f := range wrongFilters() {
				s := good()
				(*sides(&s)[k])[m].Filter = f
				mustBe(t, s, false, "the filter", f, "of entry", m, "of row", k)
			}
		}
	}
}

// expected tells if s is right by the chapter's words.
func expected(s api.State) bool {
	fine := s.Epoch >= 0 && s.Epoch <= 1<<40 && len(s.Links) <= 16 && len(s.Advs) <= 64 && len(s.Subs) <= 64
	linked := map[int]bool{}
	for k, l := range s.Links {
		fine = fine && l.Id >= 1 && l.Id <= 1<<30 && len(l.Addr) <= 32 && !linked[l.Id] && (k == 0 || s.Links[k-1].Id < l.Id)
		linked[l.Id] = true
	}
	for _, l := range [][]api.Entry{s.Advs, s.Subs} {
		for k, e := range l {
			one, err := filter.Norm(e.Filter)
			fine = fine && e.Id >= 1 && e.Id <= 1<<30 && linked[e.From] && err == api.OK && slices.Equal(one, e.Filter) && (k == 0 || l[k-1].Id < e.Id)
		}
	}
	return fine
}

// drawn tells a state whose Ids are drawn, so that it is right now and then.
func drawn(draw *rand.Rand) api.State {
	ids := func(most int) []int {
		out := []int{}
		for id := range 12 {
			if len(out) < most && draw.Intn(3) == 0 && id > 0 {
				out = append(out, id)
			}
		}
		if len(out) > 1 && draw.Intn(12) == 0 {
			k, m := draw.Intn(len(out)), draw.Intn(len(out))
			out[k], out[m] = out[m], out[k]+draw.Intn(2)
		}
		return out
	}
	s := api.State{Epoch: draw.Intn(40) - 1}
	for _, id := range ids(5) {
		s.Links = append(s.Links, api.Link{Id: id, Addr: strings.Repeat("y", draw.Intn(34))})
	}
	for _, l := range sides(&s) {
		for _, id := range ids(4) {
			e := api.Entry{Id: id, From: draw.Intn(12)}
			if len(s.Links) > 0 && draw.Intn(10) > 0 {
				e.From = s.Links[draw.Intn(len(s.Links))].Id
			}
			filters := rightFilters()
			if draw.Intn(20) == 0 {
				filters = wrongFilters()
			}
			e.Filter = filters[draw.Intn(len(filters))]
			*l = append(*l, e)
		}
	}
	return s
}

// P9.1: many states against the chapter's words.
func TestRightOfMany(t *testing.T) {
	draw := rand.New(rand.NewSource(91))
	count := map[bool]int{}
	for range 20000 {
		s := drawn(draw)
		want := expected(s)
		count[want]++
		mustBe(t, s, want, "what was drawn")
	}
	if count[true] < 2000 || count[false] < 2000 {
		t.Error("too few of one kind:", count)
	}
}

// mustLink holds that Link tells this one, or, if it is nil, that there is none.
func mustLink(t *testing.T, s api.State, id int, want *api.Link) {
	t.Helper()
	got, ok := table.Link(s, id)
	if want == nil && (ok || got != (api.Link{})) || want != nil && (!ok || got != *want) {
		t.Errorf("Link of %d in %+v: %+v, %v", id, s.Links, got, ok)
	}
}

// P9.2: the first, a middle, and the last link, and Ids that are not there.
func TestLink(t *testing.T) {
	for _, s := range []api.State{good(), full(), {Links: []api.Link{{Id: 3, Addr: "x"}}}} {
		for k := range s.Links {
			mustLink(t, s, s.Links[k].Id, &s.Links[k])
		}
	}
	for _, id := range []int{0, 1, 3, 4, 6, 7, 9, -2, -8, 1 << 30, 1<<32 + 2, api.MinInt, api.MaxInt} {
		mustLink(t, good(), id, nil)
		mustLink(t, api.State{}, id, nil)
		// An entry's Id is none of a link.
		mustLink(t, api.State{Links: []api.Link{}, Advs: []api.Entry{{Id: id, From: id}}, Subs: []api.Entry{{Id: id, From: id}}}, id, nil)
	}
}

// P9.2: links that are not right are told just so, of two of one Id the first.
func TestLinkOfWrongStates(t *testing.T) {
	l := []api.Link{{Id: 7, Addr: "a"}, {Id: 2, Addr: strings.Repeat("x", 50)}, {Id: 7, Addr: "b"}, {Id: 0, Addr: "zero"}, {Id: -3}, {Id: api.MaxInt, Addr: "c"}, {Id: 2}, {Id: 0}, {Id: api.MinInt, Addr: "d"}, {Id: 1 << 31}}
	s := api.State{Epoch: -5, Links: l, Subs: []api.Entry{{Id: -1, From: 99}}}
	for id, k := range map[int]int{7: 0, 2: 1, 0: 3, -3: 4, api.MaxInt: 5, api.MinInt: 8, 1 << 31: 9} {
		mustLink(t, s, id, &l[k])
	}
	mustLink(t, s, 1, nil)
	mustLink(t, s, 3, nil)
	// More than may be.
	s.Links = rising(50)
	for k := range s.Links {
		mustLink(t, s, k+1, &s.Links[k])
	}
	mustLink(t, s, 51, nil)
}

// mustFind holds that Find tells this one, or, if it is nil, that there is none.
func mustFind(t *testing.T, l []api.Entry, id int, want *api.Entry) {
	t.Helper()
	got, ok := table.Find(l, id)
	if want == nil {
		want = &api.Entry{}
		if ok {
			t.Errorf("Find of %d in %+v: %+v", id, l, got)
		}
	} else if !ok {
		t.Errorf("Find of %d in %+v: none", id, l)
	}
	if got.Id != want.Id || got.From != want.From || !slices.Equal(got.Filter, want.Filter) {
		t.Errorf("Find of %d in %+v: %+v, %v", id, l, got, ok)
	}
}

// P9.2: the first, a middle, and the last entry, and Ids that are not there.
func TestFind(t *testing.T) {
	for _, s := range []api.State{good(), full()} {
		for _, l := range sides(&s) {
			for k, e := range *l {
				mustFind(t, *l, e.Id, &(*l)[k])
			}
		}
	}
	for _, id := range []int{0, 2, 4, 5, 8, 10, -6, 1 << 30, 1<<32 + 6, api.MinInt, api.MaxInt} {
		s := good()
		mustFind(t, s.Advs, id, nil)
		mustFind(t, s.Subs, id, nil)
		mustFind(t, nil, id, nil)
		mustFind(t, []api.Entry{}, id, nil)
		mustFind(t, []api.Entry{{Id: 77, From: id, Filter: row(exists("a"))}}, id, nil)
	}
}

// P9.2: entries that are not right are told just so, of two of one Id the first.
func TestFindOfWrongRows(t *testing.T) {
	l := []api.Entry{
		{Id: 7, From: 1, Filter: row(exists("b"), exists("a"))}, {Id: 2, From: -1, Filter: without(30)}, {Id: 7, From: 2}, {Id: 0, From: 3, Filter: row(api.Pred{})}, {Id: -3, Filter: row(ask("a", 99, api.Value{Kind: 9, Int: -9, Text: "t"}))},
		{Id: api.MaxInt, From: api.MinInt}, {Id: 2, From: 5, Filter: row(exists("a"))}, {Id: 0, From: 4}, {Id: api.MinInt, From: api.MaxInt, Filter: row(exists("z"))}, {Id: 1 << 31},
	}
	for id, k := range map[int]int{7: 0, 2: 1, 0: 3, -3: 4, api.MaxInt: 5, api.MinInt: 8, 1 << 31: 9} {
		mustFind(t, l, id, &l[k])
	}
	mustFind(t, l, 1, nil)
	mustFind(t, l, 3, nil)
	// More than may be.
	l = entries(200, 3)
	for k := range l {
		mustFind(t, l, k+1, &l[k])
	}
	mustFind(t, l, 201, nil)
}
