package poset_test

import (
	"math/rand"
	"slices"
	"testing"

	"rosette/api"
	"rosette/filter"
	"rosette/poset"
)

// mustTell holds Tops and Edges of l against what they should be, in that order.
func mustTell(t *testing.T, l []api.Entry, tops []int, edges [][2]int) {
	t.Helper()
	if got := poset.Tops(l); !slices.Equal(got, tops) {
		t.Errorf("Tops of %+v:\n%v, and not %v", l, got, tops)
	}
	if got := poset.Edges(l); !slices.Equal(got, edges) {
		t.Errorf("Edges of %+v:\n%v, and not %v", l, got, edges)
	}
}

// told is a row of entries, and its tops and edges, in whatever order.
type told struct {
	name  string
	row   []api.Entry
	tops  []int
	edges [][2]int
}

// written tells rows whose tops and edges are written out.
func written() []told {
	a, b, c := exists("a"), exists("b"), exists("c")
	return []told{
		{"of none", nil, nil, nil},
		{"of one", []api.Entry{least(7, 1)}, []int{7}, nil},
		{"of one without predicates", []api.Entry{entry(7)}, []int{7}, nil},
		{"of two, of which one covers the other", []api.Entry{least(1, 9), least(2, 5)}, []int{2}, [][2]int{{2, 1}}},
		{"of two that cover each other", []api.Entry{least(9, 4), entry(3, ask("a", api.OpGt, num(3)))}, []int{3}, [][2]int{{3, 9}}},
		{"of two of which neither covers the other", []api.Entry{entry(9, a), entry(3, b)}, []int{9, 3}, nil},
		{"of a chain", []api.Entry{least(5, 9), least(2, 5), least(7, 1)}, []int{7}, [][2]int{{2, 5}, {7, 2}}},
		{"of a long chain", []api.Entry{least(5, 4), least(1, 3), least(4, 2), least(2, 1), entry(3)}, []int{3}, [][2]int{{1, 5}, {4, 1}, {2, 4}, {3, 2}}},
		{"of one filter", []api.Entry{entry(4, a), entry(2, a), entry(9, a), entry(-6, a)}, []int{-6}, [][2]int{{-6, 2}, {2, 4}, {4, 9}}},
		{"of none that covers another", []api.Entry{entry(8, c), entry(1, a), entry(5, b), entry(3, ask("d", api.OpEq, num(1)))}, []int{8, 1, 5, 3}, nil},
		{"of one below two", []api.Entry{entry(2, a), entry(3, b), entry(1, a, b)}, []int{2, 3}, [][2]int{{2, 1}, {3, 1}}},
		{"of two below one", []api.Entry{entry(2, a, b), entry(3, a, c), entry(1, a)}, []int{1}, [][2]int{{1, 2}, {1, 3}}},
		{"of one above two above one", []api.Entry{entry(4), entry(2, a), entry(3, b), entry(1, a, b)}, []int{4}, [][2]int{{4, 2}, {4, 3}, {2, 1}, {3, 1}}},
		{"of a long way and a short one", []api.Entry{entry(1), least(2, 1), least(3, 2), entry(4, b), entry(5, ask("a", api.OpEq, num(3)), b)}, []int{1}, [][2]int{{1, 2}, {2, 3}, {1, 4}, {3, 5}, {4, 5}}},
		{"of two chains", []api.Entry{least(6, 2), least(3, 1), entry(9, ask("b", api.OpGe, num(2))), entry(4, ask("b", api.OpGe, num(1)))}, []int{3, 4}, [][2]int{{3, 6}, {4, 9}}},
		{"of one filter between two others", []api.Entry{least(5, 2), least(4, 2), least(9, 1), least(1, 3)}, []int{9}, [][2]int{{9, 4}, {4, 5}, {5, 1}}},
		{"of wrong filters", []api.Entry{entry(1, api.Pred{}), entry(2, api.Pred{}), entry(3), entry(4, a)}, []int{1, 2, 3}, [][2]int{{3, 4}}},
		{"of void filters", []api.Entry{entry(1, ask("a", api.OpLt, text(""))), entry(5, a), entry(2, ask("b", api.OpGt, boolean(1))), entry(3, b)}, []int{5, 3}, [][2]int{{5, 1}, {3, 1}, {1, 2}}},
		{"of wrong Ids", []api.Entry{least(api.MaxInt, 1), least(api.MinInt, 1), least(0, 1), least(-1, 9)}, []int{api.MinInt}, [][2]int{{api.MinInt, 0}, {0, api.MaxInt}, {api.MaxInt, -1}}},
	}
}

// orders tells l in each order.
func orders(l []api.Entry) [][]api.Entry {
	if len(l) == 0 {
		return [][]api.Entry{{}}
	}
	out := [][]api.Entry{}
	for _, rest := range orders(l[1:]) {
		for k := range len(l) {
			out = append(out, slices.Insert(slices.Clone(rest), k, l[0]))
		}
	}
	return out
}

// placeOf tells where the entry of that Id is.
func placeOf(l []api.Entry, id int) int {
	return slices.IndexFunc(l, func(n api.Entry) bool { return n.Id == id })
}

// sortedAs tells the tops and edges in the order of l.
func sortedAs(l []api.Entry, tops []int, edges [][2]int) ([]int, [][2]int) {
	tops, edges = slices.Clone(tops), slices.Clone(edges)
	slices.SortFunc(tops, func(x, y int) int { return placeOf(l, x) - placeOf(l, y) })
	slices.SortFunc(edges, func(x, y [2]int) int {
		if x[0] != y[0] {
			return placeOf(l, x[0]) - placeOf(l, y[0])
		}
		return placeOf(l, x[1]) - placeOf(l, y[1])
	})
	return tops, edges
}

// P11.2: rows that are written out, in each order: the same tops and edges, in the order of the row.
func TestWrittenRows(t *testing.T) {
	for _, x := range written() {
		t.Run(x.name, func(t *testing.T) {
			for _, l := range orders(x.row) {
				tops, edges := sortedAs(l, x.tops, x.edges)
				mustTell(t, l, tops, edges)
				mustBeAnOrder(t, l)
			}
		})
	}
}

// P11.2: the order of what is told, written out, not reckoned.
func TestOrderOfWhatIsTold(t *testing.T) {
	a, b := exists("a"), exists("b")
	mustTell(t, []api.Entry{entry(4), entry(2, a), entry(3, b), entry(1, a, b)}, []int{4}, [][2]int{{4, 2}, {4, 3}, {2, 1}, {3, 1}})
	mustTell(t, []api.Entry{entry(1, a, b), entry(3, b), entry(2, a), entry(4)}, []int{4}, [][2]int{{3, 1}, {2, 1}, {4, 3}, {4, 2}})
	mustTell(t, []api.Entry{entry(3, b), entry(4), entry(1, a, b), entry(2, a)}, []int{4}, [][2]int{{3, 1}, {4, 3}, {4, 2}, {2, 1}})
	mustTell(t, []api.Entry{entry(9, b), entry(1, a, b), entry(5, a)}, []int{9, 5}, [][2]int{{9, 1}, {5, 1}})
	mustTell(t, []api.Entry{entry(5, a), entry(1, a, b), entry(9, b)}, []int{5, 9}, [][2]int{{5, 1}, {9, 1}})
	// A nil row and an empty one.
	mustTell(t, nil, nil, nil)
	mustTell(t, []api.Entry{}, nil, nil)
}

// P11.2: of one entry, whatever its filter and Id, it is the one top.
func TestRowsOfOne(t *testing.T) {
	all := slices.Concat([][]api.Pred{nil, {}, row(exists("a")), without(24)}, voids(), wrongs())
	for _, f := range all {
		for _, id := range []int{1, api.MaxId, 0, -1, api.MinInt, api.MaxInt} {
			mustTell(t, []api.Entry{entry(id, f...)}, []int{id}, nil)
		}
	}
}

// P11.2: long rows: of as many entries as a state has, and more.
func TestLongRows(t *testing.T) {
	draw := rand.New(rand.NewSource(110))
	for _, n := range []int{64, 150} {
		chain, alike, apart := []api.Entry{}, []api.Entry{}, []api.Entry{}
		edges := [][2]int{}
		for k := range n {
			chain = append(chain, least(k+1, k))
			alike = append(alike, entry(k+1, exists("a")))
			apart = append(apart, entry(k+1, ask("a", api.OpEq, num(k))))
			if k > 0 {
				edges = append(edges, [2]int{k, k + 1})
			}
		}
		mustTell(t, chain, []int{1}, edges)
		mustTell(t, alike, []int{1}, edges)
		for _, l := range [][]api.Entry{chain, alike} {
			draw.Shuffle(n, func(k, m int) { l[k], l[m] = l[m], l[k] })
			_, sorted := sortedAs(l, nil, edges)
			mustTell(t, l, []int{1}, sorted)
		}
		tops := []int{}
		draw.Shuffle(n, func(k, m int) { apart[k], apart[m] = apart[m], apart[k] })
		for _, x := range apart {
			tops = append(tops, x.Id)
		}
		mustTell(t, apart, tops, nil)
	}
}

// expected tells what the chapter's words say of l, of which above tells by places who stands above whom.
func expected(l []api.Entry, above func(k, m int) bool) ([]int, [][2]int) {
	tops, edges := []int{}, [][2]int{}
	for k := range l {
		top := true
		for m := range l {
			top = top && !above(m, k)
			between := false
			for n := range l {
				between = between || above(k, n) && above(n, m)
			}
			if above(k, m) && !between {
				edges = append(edges, [2]int{l[k].Id, l[m].Id})
			}
		}
		if top {
			tops = append(tops, l[k].Id)
		}
	}
	return tops, edges
}

// mustBeAnOrder holds what follows: Above is an order, which is told by Edges one behind the other, and below the tops there are all others.
func mustBeAnOrder(t *testing.T, l []api.Entry) {
	t.Helper()
	tops, reached := poset.Tops(l), reachedBy(poset.Edges(l))
	for _, a := range l {
		underTop := slices.Contains(tops, a.Id)
		for _, b := range l {
			above := poset.Above(a, b)
			if above != reached[[2]int{a.Id, b.Id}] {
				t.Fatalf("of %+v\n%d stands above %d: %v, and by edges otherwise", l, a.Id, b.Id, above)
			}
			if above && poset.Above(b, a) {
				t.Fatalf("of %+v\n%d and %d stand above each other", l, a.Id, b.Id)
			}
			for _, c := range l {
				if above && poset.Above(b, c) && !poset.Above(a, c) {
					t.Fatalf("of %+v\n%d stands above %d, and that above %d, but the first not above the last", l, a.Id, b.Id, c.Id)
				}
			}
			underTop = underTop || slices.Contains(tops, b.Id) && poset.Above(b, a)
		}
		if !underTop {
			t.Fatalf("of %+v\n%d is no top, and below none", l, a.Id)
		}
	}
}

// reachedBy tells which Ids can be reached from which, by one edge behind the other.
func reachedBy(edges [][2]int) map[[2]int]bool {
	reached := map[[2]int]bool{}
	for _, x := range edges {
		reached[x] = true
	}
	for grown := true; grown; {
		grown = false
		next := [][2]int{}
		for x := range reached {
			for _, y := range edges {
				if z := [2]int{x[0], y[1]}; x[1] == y[0] && !reached[z] {
					next = append(next, z)
				}
			}
		}
		for _, z := range next {
			reached[z], grown = true, true
		}
	}
	return reached
}

// smallEvents tells right events of a and b, or of one of them, or of none: among them are some that tell apart each two filters of drawnFilter that differ.
func smallEvents() [][]api.Attr {
	values := []api.Value{num(0), num(1), num(2), num(3), num(4), text(""), text("x"), text("xy"), text("y"), boolean(0), boolean(1)}
	out := [][]api.Attr{{}}
	for _, v := range values {
		out = append(out, []api.Attr{{Name: "a", Value: v}}, []api.Attr{{Name: "b", Value: v}})
		for _, w := range values {
			out = append(out, []api.Attr{{Name: "a", Value: v}, {Name: "b", Value: w}})
		}
	}
	return out
}

// drawnFilter draws a filter of few predicates over a and b, seldom one that is wrong.
func drawnFilter(draw *rand.Rand) []api.Pred {
	f := []api.Pred{}
	for range draw.Intn(4) {
		name := []string{"a", "b"}[draw.Intn(2)]
		switch n := draw.Intn(20); {
		case n == 0:
			f = append(f, ask(name, 1+draw.Intn(8), api.Value{}))
		case n < 5:
			f = append(f, exists(name))
		case n < 7:
			f = append(f, ask(name, api.OpPrefix, text("x")))
		case n < 8:
			f = append(f, ask(name, api.OpEq, boolean(draw.Intn(2))))
		default:
			f = append(f, ask(name, 1+draw.Intn(6), num(1+draw.Intn(3))))
		}
	}
	return f
}

// pool is filters, and which of them covers which, told by events alone.
type pool struct {
	filters [][]api.Pred
	covers  [][]bool
}

// drawnPool draws so many filters, and holds each against each by the events that meet them.
func drawnPool(draw *rand.Rand, n int) pool {
	p, events := pool{}, smallEvents()
	met, sound := [][]bool{}, []bool{}
	for range n {
		f := drawnFilter(draw)
		m := make([]bool, len(events))
		for k, e := range events {
			m[k] = filter.Meets(f, e)
		}
		_, err := filter.Norm(f)
		p.filters, met, sound = append(p.filters, f), append(met, m), append(sound, err != api.ErrArg)
	}
	for k := range n {
		p.covers = append(p.covers, make([]bool, n))
		for m := range n {
			covers := sound[k] && sound[m]
			for e := range events {
				covers = covers && (met[k][e] || !met[m][e])
			}
			p.covers[k][m] = covers
		}
	}
	return p
}

// P11.1, P11.2, P11.4: many drawn rows against the chapter's words, with what covers what told by events.
func TestDrawnRows(t *testing.T) {
	draw := rand.New(rand.NewSource(111))
	p := drawnPool(draw, 250)
	edges, between := 0, 0
	for range 4000 {
		l, of := []api.Entry{}, []int{}
		ids := draw.Perm(40)
		for k := range draw.Intn(13) {
			of = append(of, draw.Intn(len(p.filters)))
			l = append(l, api.Entry{Id: ids[k] - 5, From: draw.Intn(3), Filter: p.filters[of[k]]})
		}
		above := func(k, m int) bool {
			return l[k].Id != l[m].Id && p.covers[of[k]][of[m]] && (!p.covers[of[m]][of[k]] || l[k].Id < l[m].Id)
		}
		for k := range l {
			for m := range l {
				if got := poset.Above(l[k], l[m]); got != above(k, m) {
					t.Fatalf("%+v\nabove %+v: %v", l[k], l[m], got)
				}
				if above(k, m) {
					between++
				}
			}
		}
		wantTops, wantEdges := expected(l, above)
		mustTell(t, l, wantTops, wantEdges)
		mustBeAnOrder(t, l)
		edges += len(wantEdges)
	}
	if between -= edges; edges < 5000 || between < 1000 {
		t.Error("too few edges, or pairs with one between:", edges, between)
	}
}

// W1: of entries that share an Id nothing is promised but that it ends.
func TestRowsOfSharedIds(t *testing.T) {
	draw := rand.New(rand.NewSource(112))
	all := slices.Concat(voids(), wrongs())
	for range 40 {
		all = append(all, drawnFilter(draw))
	}
	for range 300 {
		l := []api.Entry{}
		for range draw.Intn(20) {
			l = append(l, entry(draw.Intn(3), all[draw.Intn(len(all))]...))
		}
		poset.Tops(l)
		poset.Edges(l)
	}
	poset.Tops(make([]api.Entry, 500))
	poset.Edges(make([]api.Entry, 500))
}
