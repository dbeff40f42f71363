package event_test

import (
	"math/bits"
	"slices"
	"strings"
	"testing"

	"rosette/api"
	"rosette/event"
)

func num(n int) api.Value { return api.Value{Kind: api.KindInt, Int: n} }

func text(s string) api.Value { return api.Value{Kind: api.KindText, Text: s} }

func boolean(n int) api.Value { return api.Value{Kind: api.KindBool, Int: n} }

func attr(name string, v api.Value) api.Attr { return api.Attr{Name: name, Value: v} }

// named tells attributes of these names, each with a value of its own.
func named(names ...string) []api.Attr {
	out := []api.Attr{}
	for k, name := range names {
		out = append(out, attr(name, num(k)))
	}
	return out
}

// rightNames tells names that may be, each once, rising byte by byte: at both ends of the length, of which one begins another, with bytes above 127.
func rightNames() []string {
	full := strings.Repeat("x", api.MaxName-1)
	return []string{
		"\x00", "\x00\x00", "\x01", " ", "B", "a", "a\x00", "aB", "aa", "ab", "a\x7f", "a\x80", "a\xff", "b", "ba",
		full, full + "a", full + "\xff", "z", "\x7f", "\x80", "\xc3\xa4", "\xff", "\xff\xff",
	}
}

// wrongNames tells names that may not be.
func wrongNames() []string {
	out := []string{"", "abcdefghijklmnopq", strings.Repeat("\x00", 17), strings.Repeat("\xc3\xa4", 8) + "a"}
	for n := api.MaxName + 1; n < 300; n++ {
		out = append(out, strings.Repeat("x", n))
	}
	return append(out, strings.Repeat("x", 1<<16), strings.Repeat("x", 1<<16+1))
}

// rightValues tells right values of each Kind, with the edges of each.
func rightValues() []api.Value {
	return []api.Value{
		num(0), num(-1), num(api.MinInt), num(api.MaxInt), text(""), text("a"), text("\xff\x00"),
		text(strings.Repeat("x", api.MaxText)), boolean(0), boolean(1),
	}
}

// wrongValues tells values that are not right, of each Kind and of none.
func wrongValues() []api.Value {
	return []api.Value{
		{}, {Kind: 4}, {Kind: -1}, {Kind: api.MinInt}, {Kind: api.MaxInt}, {Text: "a"}, {Int: 1}, {Kind: 257},
		{Kind: api.KindInt, Text: "a"}, {Kind: api.KindText, Int: 1}, {Kind: api.KindBool, Text: "a"},
		boolean(2), boolean(-1), text(strings.Repeat("x", api.MaxText+1)),
	}
}

// many tells n right attributes whose names rise.
func many(n int) []api.Attr {
	out := []api.Attr{}
	for k := range n {
		out = append(out, attr(string([]byte{'n', byte(k >> 8), byte(k)}), rightValues()[k%len(rightValues())]))
	}
	return out
}

// with tells l anew, with a laid in at that place.
func with(l []api.Attr, place int, a api.Attr) []api.Attr {
	return slices.Insert(slices.Clone(l), place, a)
}

// orders hands each order of l on.
func orders(l []api.Attr, told func([]api.Attr)) {
	var settle func(row []api.Attr, from int)
	settle = func(row []api.Attr, from int) {
		if from >= len(row)-1 {
			told(slices.Clone(row))
			return
		}
		for k := from; k < len(row); k++ {
			row[from], row[k] = row[k], row[from]
			settle(row, from+1)
			row[from], row[k] = row[k], row[from]
		}
	}
	settle(slices.Clone(l), 0)
}

// mustMake holds that Make of l tells just want, which is right.
func mustMake(t *testing.T, l, want []api.Attr) {
	t.Helper()
	got, e := event.Make(l)
	if e != api.OK || !slices.Equal(got, want) || !event.Right(got) {
		t.Fatalf("Make of %#v: %#v, %v, and not %#v", l, got, e, want)
	}
}

// mustRefuse holds that Make of l tells this error and nothing else, and that l is no right event.
func mustRefuse(t *testing.T, l []api.Attr, want api.Errno) {
	t.Helper()
	if got, e := event.Make(l); e != want || len(got) != 0 {
		t.Errorf("Make of %#v: %#v, %v, and not %v", l, got, e, want)
	}
	if event.Right(l) {
		t.Errorf("%#v is right", l)
	}
}

// mustBeRight holds that an event is right, and made of itself.
func mustBeRight(t *testing.T, e []api.Attr) {
	t.Helper()
	if !event.Right(e) {
		t.Errorf("%#v is not right", e)
	}
	mustMake(t, e, e)
}

// mustGet holds that Get tells v of that name.
func mustGet(t *testing.T, e []api.Attr, name string, v api.Value) {
	t.Helper()
	if got, ok := event.Get(e, name); got != v || !ok {
		t.Errorf("Get of %q in %#v: %#v, %v", name, e, got, ok)
	}
}

// mustNotGet holds that Get tells nothing of that name.
func mustNotGet(t *testing.T, e []api.Attr, name string) {
	t.Helper()
	if got, ok := event.Get(e, name); got != (api.Value{}) || ok {
		t.Errorf("Get of %q in %#v: %#v, %v", name, e, got, ok)
	}
}

// P5.1, P5.2: events of no attribute up to 24, and of more than may be.
func TestNumberOfAttributes(t *testing.T) {
	mustBeRight(t, nil)
	mustBeRight(t, []api.Attr{})
	for n := range api.MaxAttrs + 1 {
		mustBeRight(t, many(n))
	}
	for _, n := range []int{25, 26, 48, 255, 256, 257, 280, 1000, 1 << 16} {
		mustRefuse(t, many(n), api.ErrLimit)
	}
	if api.MaxAttrs != 24 || api.MaxName != 16 {
		t.Error("the limits are others")
	}
}

// P5.1, P5.2: names of each length and of whatever bytes, alone and at each place of a greatest event.
func TestNames(t *testing.T) {
	for n := 1; n <= api.MaxName; n++ {
		mustBeRight(t, named(strings.Repeat("x", n)))
		mustBeRight(t, named(strings.Repeat("\xff", n)))
	}
	for b := range 256 {
		mustBeRight(t, named(string([]byte{byte(b)})))
	}
	for _, name := range wrongNames() {
		mustRefuse(t, named(name), api.ErrArg)
	}
	for place := range api.MaxAttrs {
		for _, name := range []string{"", strings.Repeat("n", 17), many(24)[place].Name + strings.Repeat("x", 14)} {
			e := many(api.MaxAttrs)
			e[place].Name = name
			mustRefuse(t, e, api.ErrArg)
		}
	}
}

// P5.1: names that rise strictly, byte by byte, are right; the same ones, and those that fall, are not.
func TestNamesRise(t *testing.T) {
	names := rightNames()
	mustBeRight(t, named(names...))
	for k, a := range names {
		for n, b := range names {
			if got := event.Right(named(a, b)); got != (k < n) {
				t.Errorf("%q ahead of %q: Right tells %v", a, b, got)
			}
		}
	}
	full := named(names...)
	for place := range len(names) - 1 {
		turned := slices.Clone(full)
		turned[place], turned[place+1] = turned[place+1], turned[place]
		if event.Right(turned) {
			t.Errorf("%#v is right", turned)
		}
		twice := slices.Clone(full)
		twice[place+1].Name = twice[place].Name
		if event.Right(twice) {
			t.Errorf("%#v is right", twice)
		}
	}
}

// P5.1: the values have no part in the order, and do not make two of one name.
func TestValuesDoNotOrder(t *testing.T) {
	for _, v := range rightValues() {
		for _, w := range rightValues() {
			mustBeRight(t, []api.Attr{attr("a", v), attr("b", w)})
			mustMake(t, []api.Attr{attr("b", w), attr("a", v)}, []api.Attr{attr("a", v), attr("b", w)})
			mustRefuse(t, []api.Attr{attr("a", v), attr("a", w)}, api.ErrTwice)
		}
	}
}

// P5.1, P5.2: values of each Kind, and such as are not right, at each place.
func TestValues(t *testing.T) {
	for place := range api.MaxAttrs {
		e := many(api.MaxAttrs)
		for _, v := range rightValues() {
			e[place].Value = v
			mustBeRight(t, e)
		}
		for _, v := range wrongValues() {
			e[place].Value = v
			mustRefuse(t, e, api.ErrArg)
		}
	}
	for _, v := range wrongValues() {
		mustRefuse(t, []api.Attr{attr("a", v)}, api.ErrArg)
	}
}

// P5.2, P5.5: one event is made of attributes in each of their orders.
func TestMakeInEachOrder(t *testing.T) {
	for _, names := range [][]string{
		{"a"}, {"a", "b"}, {"\x00", "\x7f", "\x80", "\xff"}, {"a", "a\x00", "aa", "ab", "b"},
		{"B", "a", "ab", "abc", "b", "\xc3\xa4", "\xff"},
	} {
		want := named(names...)
		orders(want, func(l []api.Attr) { mustMake(t, l, want) })
	}
}

// P5.2, P5.5: a greatest event is made of its attributes turned round, and taken in whatever steps.
func TestMakeOfManyInManyOrders(t *testing.T) {
	for _, want := range [][]api.Attr{many(api.MaxAttrs), named(rightNames()...), many(23)} {
		back := slices.Clone(want)
		slices.Reverse(back)
		mustMake(t, back, want)
		for step := 1; step < len(want); step++ {
			for from := range want {
				l := append(slices.Clone(want[from:]), want[:from]...)
				mustMake(t, taken(l, step), want)
				mustMake(t, taken(back, step), want)
			}
		}
	}
}

// taken tells all of l, each step-th one first, then those that are left.
func taken(l []api.Attr, step int) []api.Attr {
	out := []api.Attr{}
	for from := range step {
		for k := from; k < len(l); k += step {
			out = append(out, l[k])
		}
	}
	return out
}

// P5.2: each choice of attributes makes an event of just these.
func TestMakeOfEachChoice(t *testing.T) {
	from := []api.Attr{attr("b", num(1)), attr("ab", text("x")), attr("a", boolean(1)), attr("\xff", text("")), attr("B", num(api.MinInt)), attr("a\x00", num(0))}
	for choice := range 1 << len(from) {
		l := []api.Attr{}
		for k, a := range from {
			if choice>>k&1 == 1 {
				l = append(l, a)
			}
		}
		got, e := event.Make(l)
		if e != api.OK || !event.Right(got) || len(got) != bits.OnesCount(uint(choice)) {
			t.Fatalf("Make of %#v: %#v, %v", l, got, e)
		}
		for _, a := range from {
			if slices.Contains(got, a) != slices.Contains(l, a) {
				t.Fatalf("Make of %#v: %#v", l, got)
			}
		}
	}
}

// P5.2: two of one name, at whatever places, with one value or with two.
func TestMakeOfTwoOfOneName(t *testing.T) {
	for _, length := range []int{2, 3, 5, api.MaxAttrs} {
		for first := range length {
			for second := range length {
				if first == second {
					continue
				}
				l := many(length)
				l[second] = l[first]
				mustRefuse(t, l, api.ErrTwice)
				l[second].Value = text("another")
				mustRefuse(t, l, api.ErrTwice)
			}
		}
	}
	for _, name := range rightNames() {
		mustRefuse(t, named(name, name), api.ErrTwice)
		mustRefuse(t, named(name, name, name), api.ErrTwice)
		mustRefuse(t, named(name, "else", name), api.ErrTwice)
	}
}

// P5.2: names that are nearly one name are two.
func TestMakeOfNamesThatAreNearlyOne(t *testing.T) {
	for _, pair := range [][2]string{
		{"A", "a"}, {"a", "a\x00"}, {"a", "a "}, {"a", "aa"}, {"a\xff", "a\xfe"}, {"\x80", "\x81"}, {"\xff", "\xef\xbf\xbd"},
		{strings.Repeat("x", 15), strings.Repeat("x", 16)}, {strings.Repeat("x", 15) + "a", strings.Repeat("x", 15) + "b"},
	} {
		l := []api.Attr{attr(pair[0], num(1)), attr(pair[1], num(1))}
		if got, e := event.Make(l); e != api.OK || len(got) != 2 || !event.Right(got) {
			t.Errorf("Make of %#v: %#v, %v", l, got, e)
		}
	}
}

// P5.2: of more than one fault the one that is named first is told, wherever the others are.
func TestMakeTellsTheFirstError(t *testing.T) {
	wrong := []api.Attr{attr("", num(1)), attr(strings.Repeat("x", 17), num(1)), attr("a", api.Value{}), attr("a", boolean(2)), {}}
	for _, bad := range wrong {
		for place := range 26 {
			mustRefuse(t, with(many(25), place, bad), api.ErrLimit)
		}
		twice := named("a", "b", "a", "c", "c")
		for place := range len(twice) + 1 {
			mustRefuse(t, with(twice, place, bad), api.ErrArg)
		}
		mustRefuse(t, []api.Attr{bad, bad}, api.ErrArg)
	}
	for place := range 25 {
		mustRefuse(t, with(many(24), place, many(24)[7]), api.ErrLimit)
		mustRefuse(t, with(with(many(24), place, attr("", num(1))), 3, many(24)[7]), api.ErrLimit)
	}
	mustRefuse(t, make([]api.Attr, 25), api.ErrLimit)
	mustRefuse(t, make([]api.Attr, 24), api.ErrArg)
	mustRefuse(t, slices.Repeat(named("a"), 25), api.ErrLimit)
	mustRefuse(t, slices.Repeat(named("a"), 24), api.ErrTwice)
}

// P5.3: each attribute of an event is found, and no other name.
func TestGet(t *testing.T) {
	e := named(rightNames()...)
	for k, name := range rightNames() {
		mustGet(t, e, name, num(k))
		rest := slices.Delete(slices.Clone(e), k, k+1)
		mustNotGet(t, rest, name)
		mustNotGet(t, nil, name)
		mustNotGet(t, []api.Attr{}, name)
	}
	for _, name := range []string{"", "A", "abc", "a\x00\x00", "x", "\xff\xff\xff", "\xc3", strings.Repeat("x", 17), strings.Repeat("x", 1000)} {
		mustNotGet(t, e, name)
	}
	for k, v := range rightValues() {
		mustGet(t, []api.Attr{attr("a", num(99)), attr("b", v)}, "b", v)
		mustGet(t, many(24), many(24)[k].Name, v)
	}
}

// P5.3: Get looks into what is no right event as well, and tells the first of one name.
func TestGetOfWhatIsNotRight(t *testing.T) {
	mustGet(t, named("a", "a"), "a", num(0))
	mustGet(t, named("b", "a", "c", "a", "b"), "a", num(1))
	mustGet(t, named("b", "a", "c", "a", "b"), "b", num(0))
	mustGet(t, named("c", "b", "a"), "a", num(2))
	mustGet(t, named("c", "b", "a"), "c", num(0))
	mustNotGet(t, named("c", "a"), "b")
	mustNotGet(t, named("c", "a"), "")
	mustGet(t, named("a", "", ""), "", num(1))
	mustGet(t, named(strings.Repeat("x", 17)), strings.Repeat("x", 17), num(0))
	for _, name := range wrongNames() {
		mustGet(t, named("a", name, name), name, num(1))
		mustNotGet(t, named("a", name+"b"), name)
	}
	for _, v := range wrongValues() {
		mustGet(t, []api.Attr{attr("a", v), attr("a", num(1))}, "a", v)
	}
	long := many(2000)
	for _, place := range []int{0, 23, 24, 25, 255, 256, 1000, 1999} {
		mustGet(t, long, long[place].Name, long[place].Value)
	}
	mustGet(t, slices.Concat(long, long, named("z", "z")), "z", num(0))
}

// P5.4: what is handed in stays as it was, its spare room too, whatever is told.
func TestArgumentsStay(t *testing.T) {
	for _, l := range [][]api.Attr{nil, many(1), named("b", "a"), named("c", "b", "a"), named("a", "b", "a"), named("b", ""), named(rightNames()...), many(25), append(many(23), many(1)...)} {
		room := slices.Concat(l, slices.Repeat(named("spare"), 40))
		kept := slices.Clone(room)
		event.Make(room[:len(l)])
		event.Right(room[:len(l)])
		event.Get(room[:len(l)], "a")
		if !slices.Equal(room, kept) {
			t.Errorf("of %#v there is %#v left", kept, room)
		}
	}
}

// P5.4: what is made shares no memory with what it was made of, nor with what is made once more.
func TestMakeIsNewMemory(t *testing.T) {
	for _, want := range [][]api.Attr{nil, many(1), many(2), many(24), named(rightNames()...)} {
		room := slices.Concat(want, slices.Repeat(named("spare"), 40))
		first, _ := event.Make(room[:len(want)])
		second, _ := event.Make(room[:len(want)])
		for k := range room {
			room[k] = attr("in", num(7))
		}
		if !slices.Equal(first, want) || !slices.Equal(second, want) {
			t.Errorf("what was made of %#v is %#v, %#v by now", want, first, second)
		}
		whole := first[:cap(first)]
		for k := range whole {
			whole[k] = attr("out", num(8))
		}
		if !slices.Equal(second, want) || slices.Contains(second[:cap(second)], attr("out", num(8))) || slices.Contains(room, attr("out", num(8))) {
			t.Errorf("what was made of %#v shares memory", want)
		}
	}
}

// P5.4: nothing is kept from call to call: what is told later does not hang on what was handed in ahead.
func TestNothingIsKept(t *testing.T) {
	for range 3 {
		mustMake(t, named("a", "b"), named("a", "b"))
		mustRefuse(t, named("a", "a"), api.ErrTwice)
		mustMake(t, named("a"), named("a"))
		mustNotGet(t, named("b"), "a")
		mustMake(t, nil, nil)
	}
}
