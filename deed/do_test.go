package deed_test

import (
	"fmt"
	"maps"
	"math/rand"
	"reflect"
	"slices"
	"strings"
	"testing"

	"rosette/api"
	"rosette/deed"
	"rosette/table"
)

// good tells a right state, each time in new memory: from link 2 there are advertisements alone, from 5 subscriptions alone, from 8 both, from 11 none.
func good() api.State {
	return api.State{
		Epoch: 9,
		Links: []api.Link{{Id: 2, Addr: "two"}, {Id: 5}, {Id: 8, Addr: "eight"}, {Id: 11, Addr: "eleven"}},
		Advs: []api.Entry{
			{Id: 3, From: 8, Filter: row(exists("a"))},
			{Id: 6, From: 2},
			{Id: 9, From: 2, Filter: row(ask("a", api.OpGe, num(4)), ask("a", api.OpLe, num(5)), ask("b", api.OpEq, text("x")))},
		},
		Subs: []api.Entry{
			{Id: 4, From: 5, Filter: row(ask("c", api.OpGe, text("x")), ask("c", api.OpLt, text("y")))},
			{Id: 6, From: 8, Filter: row(ask("a", api.OpEq, boolean(1)), exists("b"))},
			{Id: 10, From: 5, Filter: []api.Pred{}},
		},
	}
}

// linked tells a state of so many links, whose Ids are the even ones.
func linked(n int) api.State {
	s := api.State{Epoch: n}
	for k := range n {
		s.Links = append(s.Links, api.Link{Id: 2 * (k + 1), Addr: fmt.Sprint(k)})
	}
	return s
}

// crowded tells a state of so many advertisements and of so many subscriptions, whose Ids are the even ones.
func crowded(advs, subs int) api.State {
	s := linked(3)
	for k, n := range []int{advs, subs} {
		for m := range n {
			l := rowsOf(&s)[k]
			*l = append(*l, api.Entry{Id: 2 * (m + 1), From: 2 + 2*(m%3), Filter: row(exists("a"))})
		}
	}
	return s
}

// rowsOf tells the two rows of entries of s.
func rowsOf(s *api.State) []*[]api.Entry { return []*[]api.Entry{&s.Advs, &s.Subs} }

// rowOf tells the row that deeds of that kind are about, and the other one.
func rowOf(s *api.State, kind int) (*[]api.Entry, *[]api.Entry) {
	if kind == api.DoAdvert || kind == api.DoUnadvert {
		return &s.Advs, &s.Subs
	}
	return &s.Subs, &s.Advs
}

// mustDo holds that Do makes of s what change makes of it, with an Epoch that is one more, and that s stays; it tells the new state.
func mustDo(t *testing.T, s api.State, d api.Deed, change func(s *api.State)) api.State {
	t.Helper()
	want, before := table.Copy(s), table.Copy(s)
	want.Epoch++
	change(&want)
	got, err := deed.Do(s, d)
	if err != api.OK || !table.Same(got, want) {
		t.Errorf("Do of %+v on %+v: %+v, %v, and not %+v", d, before, got, err, want)
	}
	if !table.Right(got) {
		t.Errorf("Do of %+v on %+v: %+v is not right", d, before, got)
	}
	if !table.Same(s, before) {
		t.Errorf("Do of %+v: %+v became %+v", d, before, s)
	}
	return got
}

// mustNotDo holds that Do tells this error, and nothing else, and that s stays.
func mustNotDo(t *testing.T, s api.State, d api.Deed, want api.Errno) {
	t.Helper()
	before := table.Copy(s)
	got, err := deed.Do(s, d)
	if err != want || !table.Same(got, api.State{}) {
		t.Errorf("Do of %+v on %+v: %+v, %v, and not %v", d, before, got, err, want)
	}
	if !table.Same(s, before) {
		t.Errorf("Do of %+v: %+v became %+v", d, before, s)
	}
}

// P10.2: a new link, the least, each between, and the greatest one.
func TestLinkIsNew(t *testing.T) {
	for _, s := range []api.State{{}, good(), linked(1), linked(2), linked(8), linked(15)} {
		for _, id := range []int{1, 3, 7, 9, 13, 15, 31, most - 1, most} {
			for _, addr := range []string{"", "new", strings.Repeat("\xff", 32)} {
				got := mustDo(t, s, link(id, addr), func(s *api.State) {
					place := 0
					for place < len(s.Links) && s.Links[place].Id < id {
						place++
					}
					s.Links = slices.Insert(s.Links, place, api.Link{Id: id, Addr: addr})
				})
				if k, ok := table.Link(got, id); !ok || k.Addr != addr {
					t.Errorf("the new link %d: %+v", id, got.Links)
				}
			}
		}
	}
	// An entry's Id is none of a link.
	got := mustDo(t, good(), link(6, "six"), func(s *api.State) {
		s.Links = slices.Insert(s.Links, 2, api.Link{Id: 6, Addr: "six"})
	})
	if len(got.Links) != 5 {
		t.Error("a link of an entry's Id:", got.Links)
	}
}

// P10.2: a link that is there gets another Addr, or the same, wherever it is.
func TestLinkIsThere(t *testing.T) {
	for _, s := range []api.State{good(), linked(1), linked(15), linked(16)} {
		for k := range s.Links {
			for _, addr := range []string{"", "new", s.Links[k].Addr, strings.Repeat("x", 32)} {
				mustDo(t, s, link(s.Links[k].Id, addr), func(s *api.State) { s.Links[k].Addr = addr })
			}
		}
	}
}

// P10.2: there may be 16 links.
func TestLinksAreFull(t *testing.T) {
	for n := range 17 {
		s := linked(n)
		for _, id := range []int{1, 2*(n/2) + 1, 2*n + 1, most} {
			if n < 16 {
				mustDo(t, s, link(id, "new"), func(s *api.State) {
					s.Links = append(s.Links, api.Link{Id: id, Addr: "new"})
					slices.SortFunc(s.Links, func(a, b api.Link) int { return a.Id - b.Id })
				})
			} else {
				mustNotDo(t, s, link(id, "new"), api.ErrLimit)
			}
		}
	}
}

// P10.2: a link goes, wherever it is, if there is one, and nothing is from it.
func TestUnlink(t *testing.T) {
	for _, s := range []api.State{linked(1), linked(2), linked(8), linked(16)} {
		for k := range s.Links {
			mustDo(t, s, unlink(2*(k+1)), func(s *api.State) { s.Links = slices.Delete(s.Links, k, k+1) })
			mustNotDo(t, s, unlink(2*k+1), api.ErrNone)
		}
		mustNotDo(t, s, unlink(most), api.ErrNone)
	}
	mustNotDo(t, api.State{}, unlink(1), api.ErrNone)
	mustNotDo(t, api.State{}, unlink(most), api.ErrNone)
	// From 11 there is nothing, and an entry's Id is none of a link.
	mustDo(t, good(), unlink(11), func(s *api.State) { s.Links = s.Links[:3] })
	for _, id := range []int{1, 3, 4, 6, 7, 9, 10, 12, most} {
		mustNotDo(t, good(), unlink(id), api.ErrNone)
	}
}

// P10.2: a link from which there is an entry stays, of whichever row, wherever the entry is in it.
func TestUnlinkInUse(t *testing.T) {
	for _, id := range []int{2, 5, 8} {
		mustNotDo(t, good(), unlink(id), api.ErrUsed)
	}
	for side := range 2 {
		for place := range 3 {
			s := good()
			s.Advs, s.Subs = s.Advs[:0], s.Subs[:0]
			l := rowsOf(&s)[side]
			*l = []api.Entry{{Id: 1, From: 5}, {Id: 2, From: 5}, {Id: 3, From: 5}}
			(*l)[place].From = 8
			mustNotDo(t, s, unlink(8), api.ErrUsed)
			mustNotDo(t, s, unlink(5), api.ErrUsed)
			mustDo(t, s, unlink(2), func(s *api.State) { s.Links = slices.Delete(s.Links, 0, 1) })
			mustDo(t, s, unlink(11), func(s *api.State) { s.Links = s.Links[:3] })
			(*l)[place].From = 5
			mustDo(t, s, unlink(8), func(s *api.State) { s.Links = slices.Delete(s.Links, 2, 3) })
		}
	}
	// An entry of the link's Id that is from another one is in no way.
	s := good()
	s.Advs, s.Subs = []api.Entry{{Id: 8, From: 5}}, []api.Entry{{Id: 8, From: 2}}
	mustDo(t, s, unlink(8), func(s *api.State) { s.Links = slices.Delete(s.Links, 2, 3) })
}

// mustEnter holds that a deed of that kind brings an entry at its place, and changes nothing else.
func mustEnter(t *testing.T, s api.State, d api.Deed, one []api.Pred) {
	t.Helper()
	got := mustDo(t, s, d, func(s *api.State) {
		l, _ := rowOf(s, d.Kind)
		place := 0
		for place < len(*l) && (*l)[place].Id < d.Id {
			place++
		}
		*l = slices.Insert(*l, place, api.Entry{Id: d.Id, From: d.From, Filter: one})
	})
	l, _ := rowOf(&got, d.Kind)
	if n, ok := table.Find(*l, d.Id); !ok || n.From != d.From || !slices.Equal(n.Filter, one) {
		t.Errorf("the entry of %+v: %+v", d, *l)
	}
}

// P10.2: a new entry, the least, each between, and the greatest one, from each link.
func TestEntryIsNew(t *testing.T) {
	for _, kind := range entering {
		for _, id := range []int{1, 5, 7, 8, 11, most - 1, most} {
			for _, from := range []int{2, 5, 8, 11} {
				for _, f := range rightFilters() {
					mustEnter(t, good(), enter(kind, id, from, f...), f)
				}
			}
		}
		mustEnter(t, linked(1), enter(kind, 1, 2), nil)
		mustEnter(t, linked(16), enter(kind, most, 32, exists("z")), row(exists("z")))
	}
}

// P10.2: the Filter of a new entry is told in its one form.
func TestEntryHasNormsFilter(t *testing.T) {
	for _, kind := range entering {
		for _, f := range looseFilters() {
			mustEnter(t, good(), enter(kind, 7, 5, f.given...), f.one)
		}
	}
}

// P10.2: an entry whose link is not there.
func TestEntryWithoutLink(t *testing.T) {
	for _, kind := range entering {
		// An entry's Id is none of a link.
		for _, from := range []int{1, 3, 4, 6, 7, 9, 10, 12, most} {
			mustNotDo(t, good(), enter(kind, 7, from), api.ErrNone)
		}
		mustNotDo(t, api.State{}, enter(kind, 7, 7), api.ErrNone)
		// Not even if the Id is there already, or all Ids are.
		l, _ := rowOf(new(good()), kind)
		for _, n := range *l {
			mustNotDo(t, good(), enter(kind, n.Id, 1), api.ErrNone)
		}
		mustNotDo(t, crowded(64, 64), enter(kind, 2, 1), api.ErrNone)
		mustNotDo(t, crowded(64, 64), enter(kind, 1, 1), api.ErrNone)
	}
}

// P10.2: an entry whose Id is there already in its own row; in the other row alone it is in no way.
func TestEntryTwice(t *testing.T) {
	for _, kind := range entering {
		own, other := rowOf(new(good()), kind)
		for _, n := range *own {
			for _, from := range []int{2, n.From} {
				mustNotDo(t, good(), enter(kind, n.Id, from, n.Filter...), api.ErrTwice)
				mustNotDo(t, good(), enter(kind, n.Id, from, exists("q")), api.ErrTwice)
			}
		}
		for _, n := range *other {
			if n.Id != 6 {
				mustEnter(t, good(), enter(kind, n.Id, n.From, n.Filter...), n.Filter)
			}
		}
		// A link's Id is none of an entry.
		mustEnter(t, good(), enter(kind, 2, 2), nil)
		// It is told ahead of the limit.
		for _, id := range []int{2, 64, 128} {
			mustNotDo(t, crowded(64, 64), enter(kind, id, 2), api.ErrTwice)
		}
	}
}

// P10.2: there may be 64 entries of each row.
func TestEntriesAreFull(t *testing.T) {
	for _, kind := range entering {
		for _, n := range []int{0, 1, 32, 62, 63, 64} {
			for _, beside := range []int{0, 63, 64} {
				s := crowded(n, beside)
				if kind == api.DoSub {
					s = crowded(beside, n)
				}
				for _, id := range []int{1, 2*(n/2) + 1, 2*n + 1, most} {
					d := enter(kind, id, 4, exists("b"), exists("a"))
					if n < 64 {
						mustEnter(t, s, d, row(exists("a"), exists("b")))
					} else {
						mustNotDo(t, s, d, api.ErrLimit)
					}
				}
			}
		}
	}
}

// P10.2: an entry goes, wherever it is, if there is one in its own row.
func TestEntryGoes(t *testing.T) {
	for _, kind := range leaving {
		for _, s := range []api.State{good(), crowded(1, 1), crowded(2, 2), crowded(64, 64)} {
			l, _ := rowOf(&s, kind)
			for k, n := range *l {
				mustDo(t, s, leave(kind, n.Id), func(s *api.State) {
					l, _ := rowOf(s, kind)
					*l = slices.Delete(*l, k, k+1)
				})
			}
			for _, id := range []int{1, 5, 7, 127, 129, most} {
				mustNotDo(t, s, leave(kind, id), api.ErrNone)
			}
		}
		// Neither a link's Id, nor one that is in the other row alone.
		_, other := rowOf(new(good()), kind)
		for _, n := range *other {
			if n.Id != 6 {
				mustNotDo(t, good(), leave(kind, n.Id), api.ErrNone)
			}
		}
		for _, id := range []int{2, 5, 8, 11} {
			mustNotDo(t, good(), leave(kind, id), api.ErrNone)
		}
		mustNotDo(t, api.State{}, leave(kind, 1), api.ErrNone)
		mustNotDo(t, linked(16), leave(kind, 2), api.ErrNone)
	}
}

// deedsOfEachEnd tells deeds that are done on good(), and such as have an error of their own there.
func deedsOfEachEnd() []api.Deed {
	return []api.Deed{
		link(1, "x"), link(5, "x"), unlink(11), enter(api.DoAdvert, 7, 5), enter(api.DoSub, 7, 5), leave(api.DoUnadvert, 6), leave(api.DoUnsub, 6),
		unlink(1), unlink(8), enter(api.DoAdvert, 7, 1), enter(api.DoSub, 7, 1), enter(api.DoAdvert, 6, 5), enter(api.DoSub, 6, 5), leave(api.DoUnadvert, 7), leave(api.DoUnsub, 7),
	}
}

// P10.2: the Epoch may be 2^40, behind which nothing is done; that is told ahead of all but Norm's error.
func TestEpoch(t *testing.T) {
	for k, d := range deedsOfEachEnd() {
		for _, epoch := range []int{0, 1, 1 << 30, 1<<40 - 2, 1<<40 - 1} {
			s := good()
			s.Epoch = epoch
			got, err := deed.Do(s, d)
			if k < 7 && (err != api.OK || got.Epoch != epoch+1 || !table.Right(got)) || k >= 7 && (err == api.OK || err == api.ErrLimit) {
				t.Errorf("Do of %+v in the Epoch %d: %+v, %v", d, epoch, got, err)
			}
		}
		s := good()
		s.Epoch = 1 << 40
		mustNotDo(t, s, d, api.ErrLimit)
	}
	s := api.State{Epoch: 1 << 40}
	mustNotDo(t, s, link(1, ""), api.ErrLimit)
}

// P10.2: Norm's error is told ahead of the Epoch's, and of all others.
func TestNormsErrorIsFirst(t *testing.T) {
	last := good()
	last.Epoch = 1 << 40
	busy := crowded(64, 64)
	for _, s := range []api.State{{}, good(), last, linked(16), busy} {
		for _, d := range []api.Deed{
			{}, {Kind: 7, Id: 6}, {Kind: -1, Id: 6}, link(0, "x"), link(most+1, ""), link(5, strings.Repeat("x", 33)), {Kind: api.DoLink, Id: 5, From: 5},
			unlink(0), {Kind: api.DoUnlink, Id: 8, Addr: "x"}, {Kind: api.DoUnlink, Id: 1, Filter: row(exists("a"))}, leave(api.DoUnadvert, most+1), {Kind: api.DoUnsub, Id: 6, From: 8},
			enter(api.DoAdvert, 6, 0), enter(api.DoSub, 6, most+1), enter(api.DoSub, 0, 5), {Kind: api.DoAdvert, Id: 6, From: 1, Addr: "x"},
		} {
			mustNotDo(t, s, d, api.ErrArg)
		}
		for _, f := range wrongFilters() {
			for _, kind := range entering {
				mustNotDo(t, s, enter(kind, 7, 5, f.given...), f.want)
				mustNotDo(t, s, enter(kind, 6, 1, f.given...), f.want)
			}
		}
	}
}

// known is what a broker knows, told by maps.
type known struct {
	epoch int
	links map[int]string
	rows  [2]map[int]api.Entry
}

// knownOf tells s by maps.
func knownOf(s api.State) known {
	k := known{epoch: s.Epoch, links: map[int]string{}, rows: [2]map[int]api.Entry{{}, {}}}
	for _, x := range s.Links {
		k.links[x.Id] = x.Addr
	}
	for side, l := range rowsOf(&s) {
		for _, n := range *l {
			k.rows[side][n.Id] = n
		}
	}
	return k
}

// state tells the state of what is known.
func (k known) state() api.State {
	s := api.State{Epoch: k.epoch}
	for _, id := range slices.Sorted(maps.Keys(k.links)) {
		s.Links = append(s.Links, api.Link{Id: id, Addr: k.links[id]})
	}
	for side, l := range rowsOf(&s) {
		for _, id := range slices.Sorted(maps.Keys(k.rows[side])) {
			*l = append(*l, k.rows[side][id])
		}
	}
	return s
}

// used tells if there is an entry from that link.
func (k known) used(link int) bool {
	for _, row := range k.rows {
		for _, n := range row {
			if n.From == link {
				return true
			}
		}
	}
	return false
}

// expectedDo tells what d makes of s by the chapter's words.
func expectedDo(s api.State, d api.Deed) (api.State, api.Errno) {
	one, err := expectedNorm(d)
	if err != api.OK {
		return api.State{}, err
	}
	if s.Epoch == 1<<40 {
		return api.State{}, api.ErrLimit
	}
	k := knownOf(s)
	if err := k.expected(one); err != api.OK {
		return api.State{}, err
	}
	k.epoch++
	return k.state(), api.OK
}

// expected does d, which is its own one form.
func (k known) expected(d api.Deed) api.Errno {
	_, linked := k.links[d.Id]
	_, fromLinked := k.links[d.From]
	row := k.rows[0]
	if d.Kind >= api.DoSub {
		row = k.rows[1]
	}
	_, there := row[d.Id]
	switch d.Kind {
	case api.DoLink:
		if !linked && len(k.links) == 16 {
			return api.ErrLimit
		}
		k.links[d.Id] = d.Addr
	case api.DoUnlink:
		if !linked {
			return api.ErrNone
		}
		if k.used(d.Id) {
			return api.ErrUsed
		}
		delete(k.links, d.Id)
	case api.DoAdvert, api.DoSub:
		if !fromLinked {
			return api.ErrNone
		}
		if there {
			return api.ErrTwice
		}
		if len(row) == 64 {
			return api.ErrLimit
		}
		row[d.Id] = api.Entry{Id: d.Id, From: d.From, Filter: d.Filter}
	default:
		if !there {
			return api.ErrNone
		}
		delete(row, d.Id)
	}
	return api.OK
}

// drawn tells a deed that is right now and then; the greater wide is, the more Ids are drawn from.
func drawn(draw *rand.Rand, wide int) api.Deed {
	d := api.Deed{Kind: 1 + draw.Intn(6), Id: 1 + draw.Intn(wide)}
	switch {
	case d.Kind == api.DoLink:
		d.Id = 1 + draw.Intn(20)
		d.Addr = strings.Repeat("y", draw.Intn(8))
	case d.Kind == api.DoUnlink:
		d.Id = 1 + draw.Intn(20)
	case slices.Contains(entering, d.Kind):
		d.From = 1 + draw.Intn(20)
		filters := rightFilters()
		if draw.Intn(2) == 0 {
			filters = [][]api.Pred{looseFilters()[draw.Intn(8)].given}
		}
		d.Filter = filters[draw.Intn(len(filters))]
	case draw.Intn(3) > 0:
		// So that rows are full now and then.
		return drawn(draw, wide)
	}
	if draw.Intn(25) == 0 {
		wrong := allWrong()
		return wrong[draw.Intn(len(wrong))]
	}
	return d
}

// allWrong tells some deeds of which Norm tells an error.
func allWrong() []api.Deed {
	out := []api.Deed{{}, {Kind: 7, Id: 1}, link(0, ""), link(1, strings.Repeat("x", 33)), unlink(most + 1), {Kind: api.DoUnsub, Id: 1, From: 1}}
	for _, f := range wrongFilters() {
		out = append(out, enter(api.DoSub, 1, 1, f.given...), enter(api.DoAdvert, 1, 1, f.given...))
	}
	return out
}

// P10.2, P10.7: many deeds, one behind the other, against the chapter's words; a right state stays right, and with an error as it was.
func TestDoOfMany(t *testing.T) {
	count := map[string]int{}
	for seed := range int64(30) {
		draw := rand.New(rand.NewSource(seed))
		wide := []int{6, 40, 200}[seed%3]
		s := api.State{}
		if seed%5 == 4 {
			s.Epoch = 1<<40 - 200
		}
		for step := range 800 {
			d := drawn(draw, wide)
			want, wantErr := expectedDo(s, d)
			before := table.Copy(s)
			got, err := deed.Do(s, d)
			if err != wantErr || !table.Same(got, want) || !table.Same(s, before) {
				t.Fatalf("Do of %+v on %+v: %+v, %v, and not %+v, %v", d, before, got, err, want, wantErr)
			}
			count[fmt.Sprint(d.Kind, " ", err)]++
			if err == api.OK {
				s = got
			}
			// To ask it of each state would take long.
			if step%10 == 0 && !table.Right(s) {
				t.Fatalf("Do of %+v on %+v: %+v is not right", d, before, s)
			}
		}
	}
	for kind, errs := range map[int][]api.Errno{
		api.DoLink: {api.OK, api.ErrLimit, api.ErrArg}, api.DoUnlink: {api.OK, api.ErrNone, api.ErrUsed, api.ErrArg},
		api.DoAdvert: {api.OK, api.ErrNone, api.ErrTwice, api.ErrLimit, api.ErrVoid, api.ErrArg}, api.DoSub: {api.OK, api.ErrNone, api.ErrTwice, api.ErrLimit, api.ErrVoid, api.ErrArg},
		api.DoUnadvert: {api.OK, api.ErrNone}, api.DoUnsub: {api.OK, api.ErrNone, api.ErrArg},
	} {
		for _, err := range errs {
			if count[fmt.Sprint(kind, " ", err)] < 10 {
				t.Error("too few deeds of Kind", kind, "with", err)
			}
		}
	}
}

// P10.7: each of all deeds on right states of each kind.
func TestRightStaysRight(t *testing.T) {
	deeds := allDeeds()
	last := good()
	last.Epoch = 1<<40 - 1
	for _, s := range []api.State{{}, good(), last, linked(16), crowded(64, 63)} {
		before := table.Copy(s)
		for k := 0; k < len(deeds); k += 3 {
			got, err := deed.Do(s, deeds[k])
			if want, wantErr := expectedDo(s, deeds[k]); err != wantErr || !table.Same(got, want) {
				t.Fatalf("Do of %+v on %+v: %+v, %v, and not %+v, %v", deeds[k], before, got, err, want, wantErr)
			}
			if !table.Right(got) {
				t.Fatalf("Do of %+v on %+v: %+v is not right", deeds[k], before, got)
			}
		}
		if !table.Same(s, before) {
			t.Fatalf("%+v became %+v", before, s)
		}
	}
}

// W1: of states that are not right no more is promised than that the calls end.
func TestDoEndsOnWrongStates(t *testing.T) {
	turned := good()
	slices.Reverse(turned.Links)
	slices.Reverse(turned.Advs)
	slices.Reverse(turned.Subs)
	doubled := good()
	doubled.Links = slices.Concat(doubled.Links, doubled.Links)
	doubled.Advs = slices.Concat(doubled.Advs, doubled.Subs, doubled.Advs)
	long := linked(100)
	long.Subs = slices.Repeat([]api.Entry{{Id: api.MinInt, From: api.MaxInt, Filter: without(30)}}, 200)
	wrong := []api.State{turned, doubled, long, {Epoch: -1}, {Epoch: api.MinInt}, {Epoch: api.MaxInt}, {Epoch: 1<<40 + 1}, {Advs: []api.Entry{{}, {}}, Subs: []api.Entry{{From: -1}}}, {Links: []api.Link{{}, {Id: -1}, {Id: api.MaxInt}}}}
	deeds := allDeeds()
	for _, s := range wrong {
		for k := 0; k < len(deeds); k += 53 {
			deed.Do(s, deeds[k])
		}
		for _, d := range deedsOfEachEnd() {
			deed.Fold(s, []api.Deed{d, d, link(1, "x")})
		}
		deed.Fold(s, nil)
	}
}

// mustFold holds that Fold tells that state, how many deeds were done, and that error, and that s and l stay.
func mustFold(t *testing.T, s api.State, l []api.Deed, want api.State, done int, wantErr api.Errno) {
	t.Helper()
	before, deeds := table.Copy(s), slices.Clone(l)
	got, n, err := deed.Fold(s, l)
	if err != wantErr || n != done || !table.Same(got, want) {
		t.Errorf("Fold of %+v on %+v: %+v, %d, %v, and not %+v, %d, %v", l, before, got, n, err, want, done, wantErr)
	}
	if !table.Same(s, before) || !reflect.DeepEqual(l, deeds) {
		t.Errorf("Fold of %+v on %+v: they became %+v and %+v", deeds, before, l, s)
	}
}

// P10.3: no deed.
func TestFoldOfNone(t *testing.T) {
	last := good()
	last.Epoch = 1 << 40
	for _, s := range []api.State{{}, good(), last, linked(16), crowded(64, 64)} {
		mustFold(t, s, nil, s, 0, api.OK)
		mustFold(t, s, []api.Deed{}, s, 0, api.OK)
	}
}

// all tells deeds that are done one behind the other from the zero state on, and the state they come to.
func all() ([]api.Deed, api.State) {
	l := []api.Deed{
		link(8, "eight"), link(2, "x"), link(5, ""), link(2, "two"), link(9, "gone"),
		enter(api.DoAdvert, 6, 9), enter(api.DoSub, 6, 8, exists("b"), exists("a"), exists("b")), enter(api.DoAdvert, 3, 8, ask("a", api.OpGt, num(3))), enter(api.DoSub, 1, 2),
		leave(api.DoUnadvert, 6), unlink(9), enter(api.DoAdvert, 6, 5), leave(api.DoUnsub, 1), enter(api.DoSub, 1, 5, exists("z")),
	}
	return l, api.State{
		Epoch: 14,
		Links: []api.Link{{Id: 2, Addr: "two"}, {Id: 5}, {Id: 8, Addr: "eight"}},
		Advs:  []api.Entry{{Id: 3, From: 8, Filter: row(ask("a", api.OpGe, num(4)))}, {Id: 6, From: 5}},
		Subs:  []api.Entry{{Id: 1, From: 5, Filter: row(exists("z"))}, {Id: 6, From: 8, Filter: row(exists("a"), exists("b"))}},
	}
}

// P10.3: deeds that are all done, and one with an error among them, wherever it is.
func TestFold(t *testing.T) {
	l, want := all()
	mustFold(t, api.State{}, l, want, 14, api.OK)
	s := api.State{}
	for k := range len(l) + 1 {
		mustFold(t, api.State{}, l[:k], s, k, api.OK)
		mustFold(t, s, l[k:], want, len(l)-k, api.OK)
		for _, d := range []api.Deed{{}, unlink(77), enter(api.DoSub, 7, 77), enter(api.DoSub, 7, 5, ask("a", api.OpLt, text("")))} {
			_, err := deed.Do(s, d)
			if err == api.OK {
				t.Fatal("done:", d)
			}
			// What stands behind the error is not done, though it could be.
			mustFold(t, api.State{}, slices.Insert(slices.Clone(l), k, d), s, k, err)
			mustFold(t, s, slices.Insert(slices.Clone(l[k:]), 0, d), s, 0, err)
			mustFold(t, s, []api.Deed{d}, s, 0, err)
		}
		if k < len(l) {
			s, _ = deed.Do(s, l[k])
		}
	}
	if !table.Same(s, want) {
		t.Error("one by one:", s)
	}
}

// P10.3: of two errors the first one is told.
func TestFoldFirstError(t *testing.T) {
	mustFold(t, good(), []api.Deed{unlink(8), unlink(77)}, good(), 0, api.ErrUsed)
	mustFold(t, good(), []api.Deed{unlink(77), unlink(8)}, good(), 0, api.ErrNone)
	want := good()
	want.Epoch++
	want.Links = want.Links[:3]
	mustFold(t, good(), []api.Deed{unlink(11), unlink(11), {}}, want, 1, api.ErrNone)
}

// P10.3: the limits hold within a row of deeds too.
func TestFoldToTheLimits(t *testing.T) {
	l := []api.Deed{}
	for k := range 17 {
		l = append(l, link(20-k, ""))
	}
	want, _, _ := deed.Fold(api.State{}, l[:16])
	if len(want.Links) != 16 || want.Links[0].Id != 5 || want.Epoch != 16 {
		t.Error("16 links:", want)
	}
	mustFold(t, api.State{}, l, want, 16, api.ErrLimit)
	for _, kind := range entering {
		l := []api.Deed{}
		for k := range 65 {
			l = append(l, enter(kind, 100-k, 5, exists("b"), exists("a")))
		}
		want, _, _ := deed.Fold(want, l[:64])
		own, _ := rowOf(&want, kind)
		if len(*own) != 64 || (*own)[0].Id != 37 || want.Epoch != 80 {
			t.Error("64 entries:", want)
		}
		mustFold(t, want, l[64:], want, 0, api.ErrLimit)
		again := table.Copy(want)
		again.Epoch += 2
		mustFold(t, want, []api.Deed{leave(kind+1, 50), l[50]}, again, 2, api.OK)
	}
	s := good()
	s.Epoch = 1<<40 - 2
	end := table.Copy(s)
	end.Epoch = 1 << 40
	end.Links[1].Addr = "b"
	mustFold(t, s, []api.Deed{link(5, "a"), link(5, "b"), link(5, "c"), link(5, "d")}, end, 2, api.ErrLimit)
}

// P10.3: many rows of deeds, told as Do tells them one by one.
func TestFoldOfMany(t *testing.T) {
	for seed := range int64(300) {
		draw := rand.New(rand.NewSource(1000 + seed))
		begin, _, _ := deed.Fold(api.State{}, []api.Deed{link(1, ""), link(2, ""), link(3, "c"), enter(api.DoSub, 4, 2)})
		if seed%2 == 0 {
			begin = crowded(63, 62)
		}
		l := []api.Deed{}
		want, wantErr, done := begin, api.OK, 0
		for range draw.Intn(30) {
			d := drawn(draw, 30)
			next, err := deed.Do(want, d)
			if err == api.OK && wantErr == api.OK {
				want, done = next, done+1
			} else if wantErr == api.OK {
				if draw.Intn(4) > 0 {
					// So that not all rows end soon.
					continue
				}
				wantErr = err
			}
			l = append(l, d)
		}
		mustFold(t, begin, l, want, done, wantErr)
	}
}
