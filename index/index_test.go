package index_test

import (
	"slices"
	"strings"
	"testing"

	"rosette/api"
	"rosette/index"
)

func num(n int) api.Value { return api.Value{Kind: api.KindInt, Int: n} }

func text(s string) api.Value { return api.Value{Kind: api.KindText, Text: s} }

func boolean(n int) api.Value { return api.Value{Kind: api.KindBool, Int: n} }

func attr(name string, v api.Value) api.Attr { return api.Attr{Name: name, Value: v} }

func ask(name string, op int, v api.Value) api.Pred { return api.Pred{Name: name, Op: op, Value: v} }

// exists tells the predicate that asks for no more than an attribute of that name.
func exists(name string) api.Pred { return api.Pred{Name: name, Op: api.OpExists} }

// over tells the predicate that asks for an a of more than n.
func over(n int) api.Pred { return ask("a", api.OpGt, num(n)) }

// row tells a filter.
func row(l ...api.Pred) []api.Pred { return l }

// entry tells an entry of that Id and filter.
func entry(id int, f ...api.Pred) api.Entry { return api.Entry{Id: id, From: 1, Filter: f} }

// having tells the event of those attributes.
func having(l ...api.Attr) []api.Attr { return l }

// letter tells one of many names, which rise.
func letter(k int) string { return string([]byte{byte('A' + k)}) }

// wrongs tells predicates that are not right, of each fault: they never hold.
func wrongs() []api.Pred {
	return []api.Pred{
		{}, {Name: "a"}, exists(""), exists(strings.Repeat("n", 17)), {Op: api.OpExists, Value: num(1)}, ask("", api.OpEq, num(7)), ask("", api.OpEq, api.Value{}),
		ask("a", 0, num(7)), ask("a", 9, num(7)), ask("a", -1, num(7)), ask("a", api.MaxInt, num(7)), ask("a", api.OpExists, num(7)), ask("a", api.OpPrefix, num(7)), ask("a", api.OpPrefix, boolean(1)),
		ask("a", api.OpEq, api.Value{}), ask("a", api.OpNe, api.Value{Kind: 4, Int: 1}), ask("a", api.OpLe, boolean(2)), ask("a", api.OpEq, api.Value{Kind: api.KindInt, Int: 7, Text: "x"}), ask("a", api.OpNe, text(strings.Repeat("x", 33))), ask("a", api.OpPrefix, text(strings.Repeat("x", 65))),
	}
}

// voids tells right predicates that hold of no value.
func voids() []api.Pred {
	return []api.Pred{ask("a", api.OpLt, num(api.MinInt)), over(api.MaxInt), ask("a", api.OpLt, text("")), ask("a", api.OpLt, boolean(0)), ask("a", api.OpGt, boolean(1))}
}

// mustSize holds that an index over l has that Size, and has it still when it was asked.
func mustSize(t *testing.T, l []api.Entry, want int) {
	t.Helper()
	x := index.Build(l)
	if x == nil {
		t.Fatalf("no index over %+v", l)
	}
	if got := x.Size(); got != want {
		t.Errorf("Size of %+v:\n%d, and not %d", l, got, want)
	}
	x.Meet(having(attr("a", num(7)), attr("b", num(7)), attr("c", text("x"))))
	if got := x.Size(); got != want {
		t.Errorf("Size of %+v behind Meet:\n%d, and not %d", l, got, want)
	}
}

// mustMeet holds that an index over l tells these Ids of e, asked again too.
func mustMeet(t *testing.T, l []api.Entry, e []api.Attr, want ...int) {
	t.Helper()
	x := index.Build(l)
	for range 2 {
		if got := x.Meet(e); !slices.Equal(got, want) {
			t.Errorf("%+v\nmeets of %+v:\n%v, and not %v", e, l, got, want)
		}
	}
}

// P12.1: no entries, and entries without predicates, have none.
func TestSizeOfNone(t *testing.T) {
	mustSize(t, nil, 0)
	mustSize(t, []api.Entry{}, 0)
	mustSize(t, []api.Entry{{}}, 0)
	mustSize(t, []api.Entry{entry(1)}, 0)
	mustSize(t, []api.Entry{{Id: 1, Filter: []api.Pred{}}, {Id: 2}}, 0)
	mustSize(t, []api.Entry{entry(1), entry(2, exists("a")), entry(3)}, 1)
}

// P12.1: what stands more than once is counted once.
func TestSizeOfRepeatedPredicates(t *testing.T) {
	a, b := over(3), exists("b")
	mustSize(t, []api.Entry{entry(1, a), entry(2, a), entry(3, a)}, 1)
	mustSize(t, []api.Entry{entry(1, a, a)}, 1)
	mustSize(t, []api.Entry{entry(1, a, b, a)}, 2)
	mustSize(t, []api.Entry{entry(1, a, b), entry(2, b, a), entry(3), entry(4, b, b)}, 2)
	mustSize(t, []api.Entry{entry(1, a), entry(1, a), {Id: 7, From: 9, Filter: row(a)}}, 1)
	mustSize(t, []api.Entry{entry(1, slices.Repeat(row(a), 1000)...), entry(2, slices.Repeat(row(b, a), 1000)...)}, 2)
	for _, p := range slices.Concat(wrongs(), voids()) {
		mustSize(t, []api.Entry{entry(1, p, a), entry(2, p), entry(3, p, p)}, 2)
	}
}

// P12.1: predicates are unlike if one field alone is, whether they are right or not, and hold of the same values or not.
func TestSizeOfUnlikePredicates(t *testing.T) {
	for name, pair := range map[string][2]api.Pred{
		"name":                    {exists("a"), exists("b")},
		"name's letters":          {exists("a"), exists("A")},
		"name's last byte":        {exists("ab"), exists("ac")},
		"name's length":           {exists("a"), exists("aa")},
		"Op":                      {ask("a", api.OpLt, num(3)), ask("a", api.OpLe, num(3))},
		"Op of a text":            {ask("a", api.OpEq, text("x")), ask("a", api.OpPrefix, text("x"))},
		"kind":                    {ask("a", api.OpEq, num(1)), ask("a", api.OpEq, boolean(1))},
		"kind of zeros":           {ask("a", api.OpEq, num(0)), ask("a", api.OpEq, text(""))},
		"int":                     {over(1), over(2)},
		"int's sign":              {over(1), over(-1)},
		"int far off":             {over(1), over(1 + 1<<32)},
		"int at both ends":        {over(api.MinInt), over(api.MaxInt)},
		"int of a bool":           {ask("a", api.OpNe, boolean(0)), ask("a", api.OpNe, boolean(1))},
		"text":                    {ask("a", api.OpPrefix, text("x")), ask("a", api.OpPrefix, text("y"))},
		"text's length":           {ask("a", api.OpPrefix, text("x")), ask("a", api.OpPrefix, text("x\x00"))},
		"text's last byte":        {ask("a", api.OpEq, text(strings.Repeat("x", 31)+"y")), ask("a", api.OpEq, text(strings.Repeat("x", 32)))},
		"where name ends":         {ask("ab", api.OpEq, text("c")), ask("a", api.OpEq, text("bc"))},
		"but of one meaning":      {over(3), ask("a", api.OpGe, num(4))},
		"but always false":        {voids()[0], voids()[1]},
		"wrong one's name":        {{}, {Name: "a"}},
		"wrong one's Op":          {ask("a", 0, num(1)), ask("a", 9, num(1))},
		"wrong one's kind":        {ask("a", api.OpEq, api.Value{}), ask("a", api.OpEq, api.Value{Kind: 4})},
		"wrong one's int":         {ask("a", api.OpExists, num(1)), ask("a", api.OpExists, num(2))},
		"wrong one's text":        {ask("a", api.OpEq, text(strings.Repeat("x", 33))), ask("a", api.OpEq, text(strings.Repeat("x", 34)))},
		"wrong one's and right's": {exists("a"), ask("a", api.OpExists, num(0))},
	} {
		t.Run(name, func(t *testing.T) {
			p, q := pair[0], pair[1]
			mustSize(t, []api.Entry{entry(1, p), entry(2, q)}, 2)
			mustSize(t, []api.Entry{entry(2, q, p)}, 2)
			mustSize(t, []api.Entry{entry(1, p, q, p), entry(2), entry(3, q), entry(4, q, q)}, 2)
		})
	}
	all := slices.Concat(wrongs(), voids())
	mustSize(t, []api.Entry{entry(1, all...), entry(2, all...)}, len(all))
}

// P12.1: many entries, and many predicates in one.
func TestSizeOfManyPredicates(t *testing.T) {
	l, apart := []api.Entry{}, []api.Entry{}
	for k := range 64 {
		f, g := []api.Pred{}, []api.Pred{}
		for m := range 24 {
			f, g = append(f, over(k+m)), append(g, over(24*k+m))
		}
		l, apart = append(l, entry(k+1, f...)), append(apart, entry(k+1, g...))
	}
	mustSize(t, l, 64+23)
	mustSize(t, apart, 64*24)
	long := []api.Pred{}
	for k := range 3000 {
		long = append(long, over(k%2000))
	}
	mustSize(t, []api.Entry{entry(1, long...)}, 2000)
}

// P12.2: who asks nothing is met by each event, who asks something not by one without attributes.
func TestMeetOfNothing(t *testing.T) {
	l := []api.Entry{entry(8, exists("a")), entry(3), entry(5, over(3)), {Id: 9, Filter: []api.Pred{}}, entry(1, voids()[0]), entry(4, api.Pred{}), entry(2)}
	for _, none := range [][]api.Attr{nil, {}} {
		mustMeet(t, nil, none)
		mustMeet(t, []api.Entry{}, none)
		mustMeet(t, []api.Entry{{}}, none, 0)
		mustMeet(t, l, none, 3, 9, 2)
	}
	mustMeet(t, nil, having(attr("a", num(1))))
	mustMeet(t, []api.Entry{{}}, having(attr("a", num(1))), 0)
	mustMeet(t, l, having(attr("b", num(7))), 3, 9, 2)
	mustMeet(t, l, having(attr("a", num(1))), 8, 3, 9, 2)
	mustMeet(t, l, having(attr("a", num(7))), 8, 3, 5, 9, 2)
}

// P12.2: each Op, at, ahead of and behind the value that it asks for, and of each kind.
func TestMeetOfEachOp(t *testing.T) {
	for _, x := range []struct {
		side, value api.Value
		want        []int // entries, each of whose Ids is its Op
	}{
		{num(5), num(4), []int{api.OpNe, api.OpLt, api.OpLe, api.OpExists}},
		{num(5), num(5), []int{api.OpEq, api.OpLe, api.OpGe, api.OpExists}},
		{num(5), num(6), []int{api.OpNe, api.OpGt, api.OpGe, api.OpExists}},
		{num(5), num(api.MinInt), []int{api.OpNe, api.OpLt, api.OpLe, api.OpExists}},
		{num(5), num(api.MaxInt), []int{api.OpNe, api.OpGt, api.OpGe, api.OpExists}},
		{num(5), text("5"), []int{api.OpExists}},
		{num(1), boolean(1), []int{api.OpExists}},
		{num(0), text(""), []int{api.OpExists}},
		{text("m"), text("l"), []int{api.OpNe, api.OpLt, api.OpLe, api.OpExists}},
		{text("m"), text(""), []int{api.OpNe, api.OpLt, api.OpLe, api.OpExists}},
		{text("m"), text("m"), []int{api.OpEq, api.OpLe, api.OpGe, api.OpPrefix, api.OpExists}},
		{text("m"), text("ma"), []int{api.OpNe, api.OpGt, api.OpGe, api.OpPrefix, api.OpExists}},
		{text("m"), text("n"), []int{api.OpNe, api.OpGt, api.OpGe, api.OpExists}},
		{text(""), text("n"), []int{api.OpNe, api.OpGt, api.OpGe, api.OpPrefix, api.OpExists}},
		{text("m"), num(0), []int{api.OpExists}},
		{text(""), boolean(0), []int{api.OpExists}},
		{boolean(0), boolean(0), []int{api.OpEq, api.OpLe, api.OpGe, api.OpExists}},
		{boolean(0), boolean(1), []int{api.OpNe, api.OpGt, api.OpGe, api.OpExists}},
		{boolean(1), boolean(0), []int{api.OpNe, api.OpLt, api.OpLe, api.OpExists}},
		{boolean(1), num(1), []int{api.OpExists}},
		{boolean(0), text(""), []int{api.OpExists}},
	} {
		l, alone := []api.Entry{}, []int{}
		for op := api.OpEq; op < api.OpExists; op++ {
			l = append(l, entry(op, ask("b", op, x.side)))
		}
		l = append(l, entry(api.OpExists, exists("b")))
		for _, n := range l {
			alone = append(alone, index.Build([]api.Entry{n}).Meet(having(attr("b", x.value)))...)
		}
		if !slices.Equal(alone, x.want) {
			t.Errorf("%+v against %+v, Op by Op: %v, and not %v", x.value, x.side, alone, x.want)
		}
		mustMeet(t, l, having(attr("b", x.value)), x.want...)
		mustMeet(t, l, having(attr("a", x.side), attr("b", x.value), attr("c", x.side)), x.want...)
		mustMeet(t, l, having(attr("a", x.value), attr("bb", x.value)))
	}
}

// P12.2: all predicates but one hold, whichever that is, of filters of each length.
func TestMeetOfAllButOne(t *testing.T) {
	for n := 1; n <= 24; n++ {
		f, whole := []api.Pred{}, having()
		for k := range n {
			f, whole = append(f, ask(letter(k), api.OpGe, num(k))), append(whole, attr(letter(k), num(k)))
		}
		l := []api.Entry{entry(7, f...), entry(4), entry(2, f[:n-1]...), entry(5, f[1:]...)}
		mustMeet(t, l, whole, 7, 4, 2, 5)
		for k := range n {
			want := []int{4}
			if k == n-1 {
				want = append(want, 2)
			}
			if k == 0 {
				want = append(want, 5)
			}
			lesser, unlike := slices.Clone(whole), slices.Clone(whole)
			lesser[k].Value.Int--
			unlike[k].Value = text("x")
			mustMeet(t, l, lesser, want...)
			mustMeet(t, l, unlike, want...)
			mustMeet(t, l, slices.Delete(slices.Clone(whole), k, k+1), want...)
		}
	}
}

// P12.2: a predicate that stands more than once in an entry asks no more, and stands for no other one.
func TestMeetOfRepeatedPredicates(t *testing.T) {
	a, b := over(3), exists("b")
	l := []api.Entry{entry(1, a, a), entry(2, a, a, b), entry(3, b, a, b), entry(4, b, b, b), entry(5, a), entry(6, a, b), entry(7, slices.Repeat(row(a), 24)...), entry(8, append(slices.Repeat(row(a), 1000), b)...)}
	mustMeet(t, l, having(attr("a", num(4))), 1, 5, 7)
	mustMeet(t, l, having(attr("b", num(4))), 4)
	mustMeet(t, l, having(attr("a", num(4)), attr("b", num(4))), 1, 2, 3, 4, 5, 6, 7, 8)
	mustMeet(t, l, having(attr("a", num(3)), attr("b", num(4))), 4)
	mustMeet(t, l, having(attr("a", num(3))))
	mustMeet(t, []api.Entry{entry(1, a, a)}, having(attr("a", num(4))), 1)
	mustMeet(t, []api.Entry{entry(1, a, a, b)}, having(attr("a", num(4))))
}

// P12.2: entries of one filter, in whatever order it stands, and entries that have some predicates together.
func TestMeetOfSharedPredicates(t *testing.T) {
	a, b, c := over(3), exists("b"), ask("c", api.OpPrefix, text("x"))
	alike := []api.Entry{entry(2, a, b), entry(1, a, b), entry(3, b, a)}
	mustMeet(t, alike, having(attr("a", num(4)), attr("b", num(0))), 2, 1, 3)
	mustMeet(t, alike, having(attr("a", num(4)), attr("c", num(0))))
	mustMeet(t, alike, having(attr("b", num(0))))

	some := []api.Entry{entry(6, a, b), entry(5, b, c), entry(4, c, a), entry(3, a, b, c), entry(2, c), entry(1, over(4), b)}
	x := attr("c", text("xy"))
	mustMeet(t, some, having(attr("a", num(4)), attr("b", num(0)), x), 6, 5, 4, 3, 2)
	mustMeet(t, some, having(attr("a", num(5)), attr("b", num(0)), x), 6, 5, 4, 3, 2, 1)
	mustMeet(t, some, having(attr("a", num(4)), attr("b", num(0))), 6)
	mustMeet(t, some, having(attr("b", num(0)), x), 5, 2)
	mustMeet(t, some, having(attr("a", num(4)), x), 4, 2)
	mustMeet(t, some, having(x), 2)
	mustMeet(t, some, having(attr("a", num(4))))

	// Of one name several may hold at once.
	steps := []api.Entry{entry(1, over(1), over(2), over(3)), entry(2, over(2), over(1)), entry(3, over(1)), entry(4, over(3), ask("a", api.OpLt, num(9)))}
	mustMeet(t, steps, having(attr("a", num(1))))
	mustMeet(t, steps, having(attr("a", num(2))), 3)
	mustMeet(t, steps, having(attr("a", num(3))), 2, 3)
	mustMeet(t, steps, having(attr("a", num(4))), 1, 2, 3, 4)
	mustMeet(t, steps, having(attr("a", num(9))), 1, 2, 3)
}

// P12.2: predicates that are not right, and those that no value is, never hold, alone or among others.
func TestMeetOfWhatNeverHolds(t *testing.T) {
	values := []api.Value{num(7), num(0), num(api.MinInt), num(api.MaxInt), text(""), text("x"), text(strings.Repeat("x", 64)), boolean(0), boolean(1)}
	for _, p := range slices.Concat(wrongs(), voids()) {
		l := []api.Entry{entry(1, p), entry(2), entry(3, exists("a"), p), entry(4, p, exists("a")), entry(5, p, p), entry(6, exists("a"))}
		for _, v := range values {
			mustMeet(t, l, having(attr("a", v)), 2, 6)
			mustMeet(t, l, having(attr("b", v), attr("nnnnnnnnnnnnnnnn", v)), 2)
		}
		mustMeet(t, l, nil, 2)
	}
	// Each of two holds, but never both.
	both := []api.Entry{entry(1, over(3), ask("a", api.OpLt, num(4))), entry(2, over(3)), entry(3, ask("a", api.OpLt, num(4))), entry(4, over(3), ask("a", api.OpNe, text("x")))}
	mustMeet(t, both, having(attr("a", num(3))), 3)
	mustMeet(t, both, having(attr("a", num(4))), 2)
}

// P12.2: the order of the entries, whatever their Ids, and whoever they are from.
func TestOrderOfIds(t *testing.T) {
	a, e := over(3), having(attr("a", num(4)))
	for _, ids := range [][]int{{1, 2, 3, 4}, {4, 3, 2, 1}, {2, 4, 1, 3}, {5, 5, 5, 5}, {7, 3, 7, 3}, {3, 7, 7, 3}, {api.MaxId, 1, api.MaxInt, api.MinInt}, {0, -1, 0, 1}, {1 << 32, 0, 1 << 33, 1}} {
		l := []api.Entry{}
		for k, id := range ids {
			l = append(l, api.Entry{Id: id, From: 9 - 3*k, Filter: row(a)})
		}
		mustMeet(t, l, e, ids...)
		l[1].Filter = row(a, over(4))
		mustMeet(t, l, e, ids[0], ids[2], ids[3])
		l[2].Filter = nil
		mustMeet(t, l, e, ids[0], ids[2], ids[3])
		mustMeet(t, l, nil, ids[2])
	}
	long, want := []api.Entry{}, []int{}
	for k := range 500 {
		long = append(long, entry(k*77%500, over(k*31%50)))
		if k*31%50 < 25 {
			want = append(want, k*77%500)
		}
	}
	mustMeet(t, long, having(attr("a", num(25))), want...)
}
