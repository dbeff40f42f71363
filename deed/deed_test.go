package deed_test

import (
	"fmt"
	"slices"
	"strings"
	"testing"

	"rosette/api"
	"rosette/deed"
	"rosette/filter"
)

// most is the greatest Id.
const most = 1 << 30

func num(n int) api.Value { return api.Value{Kind: api.KindInt, Int: n} }

func text(s string) api.Value { return api.Value{Kind: api.KindText, Text: s} }

func boolean(n int) api.Value { return api.Value{Kind: api.KindBool, Int: n} }

func ask(name string, op int, v api.Value) api.Pred { return api.Pred{Name: name, Op: op, Value: v} }

// exists tells the predicate that asks for no more than an attribute of that name.
func exists(name string) api.Pred { return api.Pred{Name: name, Op: api.OpExists} }

// row tells a filter.
func row(l ...api.Pred) []api.Pred { return l }

// without tells the filter that asks for all ints but so many.
func without(n int) []api.Pred {
	out := []api.Pred{}
	for k := range n {
		out = append(out, ask("a", api.OpNe, num(10*k)))
	}
	return out
}

// prefixes tells a filter of so many predicates, each of a name of its own, whose one form has twice as many.
func prefixes(n int) []api.Pred {
	out := []api.Pred{}
	for k := range n {
		out = append(out, ask(string(rune('a'+k)), api.OpPrefix, text("x")))
	}
	return out
}

func link(id int, addr string) api.Deed { return api.Deed{Kind: api.DoLink, Id: id, Addr: addr} }

func unlink(id int) api.Deed { return api.Deed{Kind: api.DoUnlink, Id: id} }

// The kinds of deeds that bring an entry, and that take one away.
var (
	entering = []int{api.DoAdvert, api.DoSub}
	leaving  = []int{api.DoUnadvert, api.DoUnsub}
)

func enter(kind, id, from int, f ...api.Pred) api.Deed {
	return api.Deed{Kind: kind, Id: id, From: from, Filter: f}
}

func leave(kind, id int) api.Deed { return api.Deed{Kind: kind, Id: id} }

// plain tells a deed of that kind that is its own one form, each time in new memory.
func plain(kind, id int) api.Deed {
	switch kind {
	case api.DoLink:
		return link(id, "addr")
	case api.DoAdvert, api.DoSub:
		return enter(kind, id, 5, exists("a"), ask("b", api.OpGe, num(4)))
	}
	return leave(kind, id)
}

// rightFilters tells filters that are their own one form.
func rightFilters() [][]api.Pred {
	return [][]api.Pred{
		nil, {}, row(exists("a")), row(exists("a"), exists("b")), row(ask("a", api.OpGe, num(4)), ask("a", api.OpLe, num(5))), row(ask("a", api.OpEq, boolean(1))),
		row(ask("a", api.OpGe, text("x")), ask("a", api.OpLt, text("y")), ask("b", api.OpNe, num(-3))), row(ask("a", api.OpEq, text(strings.Repeat("x", 32)))), row(exists(strings.Repeat("n", 16))), without(24),
	}
}

// formed is a filter and its one form.
type formed struct{ given, one []api.Pred }

// looseFilters tells filters that have a form, which is another one.
func looseFilters() []formed {
	fourToFive := row(ask("a", api.OpGe, num(4)), ask("a", api.OpLe, num(5)))
	return []formed{
		{row(exists("a"), exists("a")), row(exists("a"))},
		{row(exists("b"), exists("a")), row(exists("a"), exists("b"))},
		{row(ask("a", api.OpLe, num(5)), ask("a", api.OpGe, num(4))), fourToFive},
		{row(ask("a", api.OpLt, num(6)), ask("a", api.OpGt, num(3))), fourToFive},
		{row(exists("a"), ask("a", api.OpEq, num(1))), row(ask("a", api.OpEq, num(1)))},
		{row(ask("a", api.OpPrefix, text("x"))), row(ask("a", api.OpGe, text("x")), ask("a", api.OpLt, text("y")))},
		{row(ask("a", api.OpLe, boolean(1))), row(ask("a", api.OpGe, boolean(0)))},
		{append(without(23), exists("a")), without(23)},
	}
}

// faulty is a filter that has no form, and why.
type faulty struct {
	given []api.Pred
	want  api.Errno
}

// wrongFilters tells filters that have no form, of each error of filter's Norm, and of two of them.
func wrongFilters() []faulty {
	void := row(ask("a", api.OpEq, num(1)), ask("a", api.OpEq, num(2)))
	return []faulty{
		{without(25), api.ErrLimit}, {slices.Repeat(row(exists("a")), 25), api.ErrLimit}, {prefixes(13), api.ErrLimit},
		{row(api.Pred{}), api.ErrArg}, {row(exists("")), api.ErrArg}, {row(exists(strings.Repeat("n", 17))), api.ErrArg}, {row(ask("a", 9, num(1))), api.ErrArg}, {row(exists("a"), api.Pred{}), api.ErrArg}, {row(ask("a", api.OpEq, text(strings.Repeat("x", 33)))), api.ErrArg},
		{void, api.ErrVoid}, {row(ask("a", api.OpLt, num(api.MinInt))), api.ErrVoid}, {row(ask("a", api.OpLt, text(""))), api.ErrVoid},
		{append(without(24), api.Pred{}), api.ErrLimit}, {append(slices.Clone(void), api.Pred{}), api.ErrArg}, {append(prefixes(13), row(ask("z", api.OpLt, text("")))...), api.ErrVoid},
	}
}

// alike tells if a and b have the same fields, where a nil filter and an empty one are the same.
func alike(a, b api.Deed) bool {
	return a.Kind == b.Kind && a.Id == b.Id && a.From == b.From && a.Addr == b.Addr && slices.Equal(a.Filter, b.Filter)
}

// mustForm holds that Norm tells that one form of d.
func mustForm(t *testing.T, d, want api.Deed) {
	t.Helper()
	if got, err := deed.Norm(d); err != api.OK || !alike(got, want) {
		t.Errorf("Norm of %+v: %+v, %v", d, got, err)
	}
}

// mustRefuse holds that Norm tells this error of d, and nothing else.
func mustRefuse(t *testing.T, d api.Deed, want api.Errno) {
	t.Helper()
	if got, err := deed.Norm(d); err != want || !alike(got, api.Deed{}) {
		t.Errorf("Norm of %+v: %+v, %v, and not %v", d, got, err, want)
	}
}

// P10.1: Kinds from 1 to 6, and no others.
func TestNormKind(t *testing.T) {
	for kind := 1; kind <= 6; kind++ {
		mustForm(t, plain(kind, 7), plain(kind, 7))
	}
	for _, kind := range []int{0, 7, 8, -1, -6, 1<<8 + 1, 1<<32 + 1, api.MinInt, api.MaxInt} {
		for fields := range 7 {
			d := plain(fields, 7)
			d.Kind = kind
			mustRefuse(t, d, api.ErrArg)
		}
	}
	mustRefuse(t, api.Deed{}, api.ErrArg)
}

// ids tells numbers that are Ids (true) and such as are none.
func ids() map[int]bool {
	return map[int]bool{
		1: true, 2: true, 5: true, most - 1: true, most: true,
		0: false, most + 1: false, -1: false, -most: false, 1<<32 + 1: false, api.MinInt: false, api.MaxInt: false,
	}
}

// P10.1: Ids from 1 to 2^30, of each Kind.
func TestNormId(t *testing.T) {
	for id, fine := range ids() {
		for kind := 1; kind <= 6; kind++ {
			if fine {
				mustForm(t, plain(kind, id), plain(kind, id))
			} else {
				mustRefuse(t, plain(kind, id), api.ErrArg)
			}
		}
	}
}

// P10.1: a field that is not named is zero, of each Kind.
func TestNormFieldsNotNamed(t *testing.T) {
	for _, kind := range []int{api.DoLink, api.DoUnlink, api.DoUnadvert, api.DoUnsub} {
		for _, from := range []int{1, 5, most, most + 1, -1, 1 << 32, api.MinInt, api.MaxInt} {
			d := plain(kind, 7)
			d.From = from
			mustRefuse(t, d, api.ErrArg)
		}
		filters := rightFilters()[2:]
		for _, f := range wrongFilters() {
			filters = append(filters, f.given)
		}
		for _, f := range filters {
			d := plain(kind, 7)
			d.Filter = f
			mustRefuse(t, d, api.ErrArg)
		}
		// A filter without predicates is none.
		d := plain(kind, 7)
		d.Filter = row(exists("a"))[:0]
		mustForm(t, d, plain(kind, 7))
	}
	for kind := 2; kind <= 6; kind++ {
		for _, addr := range []string{"x", "\x00", strings.Repeat("x", 32), strings.Repeat("x", 33)} {
			d := plain(kind, 7)
			d.Addr = addr
			mustRefuse(t, d, api.ErrArg)
		}
	}
}

// P10.1: an Addr has at most 32 bytes; it is the bytes that are counted.
func TestNormAddr(t *testing.T) {
	for n := range 70 {
		for _, piece := range []string{"x", "\x00", "\xff"} {
			d := link(7, strings.Repeat(piece, n))
			if n <= 32 {
				mustForm(t, d, d)
			} else {
				mustRefuse(t, d, api.ErrArg)
			}
		}
	}
	mustForm(t, link(7, strings.Repeat("\u00e4", 16)), link(7, strings.Repeat("\u00e4", 16)))
	mustRefuse(t, link(7, strings.Repeat("\u00e4", 17)), api.ErrArg)
	mustRefuse(t, link(7, strings.Repeat("\u20ac", 11)), api.ErrArg)
}

// P10.1: From is from 1 to 2^30, of deeds that bring an entry.
func TestNormFrom(t *testing.T) {
	for from, fine := range ids() {
		for _, kind := range entering {
			d := enter(kind, 7, from, exists("a"))
			if fine {
				mustForm(t, d, d)
			} else {
				mustRefuse(t, d, api.ErrArg)
			}
		}
	}
}

// P10.1: the Filter is told in its one form.
func TestNormFilter(t *testing.T) {
	for _, kind := range entering {
		for _, f := range rightFilters() {
			mustForm(t, enter(kind, 7, 5, f...), enter(kind, 7, 5, f...))
		}
		for _, f := range looseFilters() {
			mustForm(t, enter(kind, 7, 5, f.given...), enter(kind, 7, 5, f.one...))
			// What was told is its own one form.
			mustForm(t, enter(kind, 7, 5, f.one...), enter(kind, 7, 5, f.one...))
		}
		for _, f := range wrongFilters() {
			mustRefuse(t, enter(kind, 7, 5, f.given...), f.want)
		}
	}
}

// P10.1: of a wrong field and a filter without a form the field is told.
func TestNormFirstFault(t *testing.T) {
	for _, f := range wrongFilters() {
		for _, kind := range entering {
			for what, spoil := range map[string]func(d *api.Deed){
				"Id 0": func(d *api.Deed) { d.Id = 0 }, "Id": func(d *api.Deed) { d.Id = most + 1 },
				"From 0": func(d *api.Deed) { d.From = 0 }, "From": func(d *api.Deed) { d.From = most + 1 },
				"Addr": func(d *api.Deed) { d.Addr = "x" }, "Kind 0": func(d *api.Deed) { d.Kind = 0 }, "Kind 7": func(d *api.Deed) { d.Kind = 7 },
			} {
				d := enter(kind, 7, 5, f.given...)
				spoil(&d)
				if got, err := deed.Norm(d); err != api.ErrArg || !alike(got, api.Deed{}) {
					t.Errorf("Norm of %+v, whose %s is wrong: %+v, %v", d, what, got, err)
				}
			}
		}
	}
}

// allDeeds tells the deeds of all fields, right and wrong ones, with all others.
func allDeeds() []api.Deed {
	filters := rightFilters()[1:4]
	filters = append(filters, looseFilters()[0].given, looseFilters()[5].given)
	for _, f := range wrongFilters() {
		filters = append(filters, f.given)
	}
	out := []api.Deed{}
	for kind := -1; kind <= 8; kind++ {
		for _, id := range []int{-1, 0, 1, 5, most, most + 1} {
			for _, from := range []int{-1, 0, 1, 5, most, most + 1} {
				for _, addr := range []string{"", "x", strings.Repeat("x", 32), strings.Repeat("x", 33)} {
					for _, f := range filters {
						out = append(out, api.Deed{Kind: kind, Id: id, From: from, Addr: addr, Filter: f})
					}
				}
			}
		}
	}
	return out
}

// expectedNorm tells the one form of d by the chapter's words.
func expectedNorm(d api.Deed) (api.Deed, api.Errno) {
	named := map[int]string{api.DoLink: "Addr", api.DoUnlink: "-", api.DoAdvert: "From, Filter", api.DoUnadvert: "-", api.DoSub: "From, Filter", api.DoUnsub: "-"}[d.Kind]
	may := func(n int) bool { return n > 0 && n <= 1<<30 }
	has := func(field string) bool { return strings.Contains(named, field) }
	wrong := named == "" || !may(d.Id) || !has("Addr") && d.Addr != "" || !has("From") && d.From != 0 || !has("Filter") && len(d.Filter) != 0
	if wrong || has("Addr") && len(d.Addr) > 32 || has("From") && !may(d.From) {
		return api.Deed{}, api.ErrArg
	}
	if has("Filter") {
		one, err := filter.Norm(d.Filter)
		if err != api.OK {
			return api.Deed{}, err
		}
		d.Filter = one
	}
	return d, api.OK
}

// P10.1: deeds of all fields together against the chapter's words.
func TestNormOfAll(t *testing.T) {
	count := map[string]int{}
	for _, d := range allDeeds() {
		want, wantErr := expectedNorm(d)
		got, err := deed.Norm(d)
		if err != wantErr || !alike(got, want) {
			t.Fatalf("Norm of %+v: %+v, %v, and not %+v, %v", d, got, err, want, wantErr)
		}
		if err == api.OK {
			mustForm(t, got, got)
		}
		count[fmt.Sprint(d.Kind, " ", err)]++
	}
	for kind := 1; kind <= 6; kind++ {
		for _, err := range []api.Errno{api.OK, api.ErrArg} {
			if count[fmt.Sprint(kind, " ", err)] == 0 {
				t.Error("no deed of Kind", kind, "with", err)
			}
		}
	}
}
