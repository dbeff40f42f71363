package poset_test

import (
	"reflect"
	"slices"
	"testing"

	"rosette/api"
	"rosette/poset"
)

// padded tells l with spare room behind it, and behind each filter, which is marked.
func padded(l []api.Entry) []api.Entry {
	mark := slices.Repeat(row(ask("mark", 77, num(77))), 3)
	out := slices.Clone(l)
	for range 3 {
		out = append(out, entry(-77, slices.Clone(mark)...))
	}
	out = slices.Clip(out)
	for k, n := range l {
		out[k].Filter = slices.Concat(n.Filter, mark)[:len(n.Filter)]
	}
	return out[:len(l)]
}

// allRoom tells l with its spare room as part of it, in new memory.
func allRoom(l []api.Entry) []api.Entry {
	out := slices.Clone(l[:cap(l)])
	for k, n := range out {
		out[k].Filter = slices.Clone(n.Filter[:cap(n.Filter)])
	}
	return out
}

// spoil overwrites all that can be reached from l, its spare room too.
func spoil(l []api.Entry) {
	l = l[:cap(l)]
	for k, n := range l {
		f := n.Filter[:cap(n.Filter)]
		for m := range f {
			f[m] = exists("spoilt")
		}
		l[k] = entry(-99, exists("spoilt"))
	}
}

// fill overwrites a list and its spare room.
func fill[T any](l []T, with T) {
	l = l[:cap(l)]
	for k := range l {
		l[k] = with
	}
}

// rowsOfAllKinds tells the rows that are written out, and one of each filter that there is.
func rowsOfAllKinds() [][]api.Entry {
	out, all := [][]api.Entry{}, []api.Entry{}
	for _, x := range written() {
		out = append(out, x.row)
	}
	for _, f := range slices.Concat(voids(), wrongs()) {
		all = append(all, entry(len(all)+1, f...))
	}
	for _, x := range slices.Concat(equals(), wider(), unlike()) {
		all = append(all, entry(len(all)+1, x[0]...), entry(len(all)+2, x[1]...))
	}
	return append(out, all)
}

// P11.3: what is handed in stays, its spare room too.
func TestArgumentsStay(t *testing.T) {
	for _, l := range rowsOfAllKinds() {
		given := padded(l)
		kept := allRoom(given)
		for range 2 {
			poset.Tops(given)
			poset.Edges(given)
			for _, a := range given {
				for _, b := range given {
					poset.Above(a, b)
				}
			}
		}
		if !reflect.DeepEqual(allRoom(given), kept) {
			t.Errorf("%+v became %+v", l, given)
		}
	}
}

// P11.3: what is answered is new memory, its spare room too, whatever becomes of what was handed in.
func TestAnswersAreNewMemory(t *testing.T) {
	for _, l := range rowsOfAllKinds() {
		given := padded(l)
		kept := allRoom(given)
		tops, edges := poset.Tops(given), poset.Edges(given)
		otherTops, otherEdges := poset.Tops(given), poset.Edges(given)
		wantTops, wantEdges := slices.Clone(tops), slices.Clone(edges)
		fill(otherTops, -88)
		fill(otherEdges, [2]int{-88, -88})
		if !reflect.DeepEqual(allRoom(given), kept) {
			t.Errorf("what is told of %+v is what was handed in", l)
		}
		mustTell(t, given, wantTops, wantEdges)
		spoil(given)
		if !slices.Equal(tops, wantTops) || !slices.Equal(edges, wantEdges) {
			t.Errorf("what is told of %+v became %v, %v", l, tops, edges)
		}
	}
}

// P11.3: nothing is kept: the same Ids, and the same memory, with other filters are told anew, and then as they were.
func TestNothingIsKept(t *testing.T) {
	l := []api.Entry{least(1, 3), least(2, 2), least(3, 1)}
	for range 3 {
		mustTell(t, l, []int{3}, [][2]int{{2, 1}, {3, 2}})
		if poset.Above(l[0], l[1]) || !poset.Above(l[1], l[0]) {
			t.Error("2 stands above 1")
		}
		l[0].Filter[0].Value.Int = 0
		mustTell(t, l, []int{1}, [][2]int{{1, 3}, {3, 2}})
		if !poset.Above(l[0], l[1]) || poset.Above(l[1], l[0]) {
			t.Error("1 stands above 2")
		}
		l[1].Filter[0].Name = "b"
		mustTell(t, l, []int{1, 2}, [][2]int{{1, 3}})
		l[2].Id = 7
		mustTell(t, l, []int{1, 2}, [][2]int{{1, 7}})
		l[0].Filter[0].Value.Int, l[1].Filter[0].Name, l[2].Id = 3, "a", 3
	}
}
