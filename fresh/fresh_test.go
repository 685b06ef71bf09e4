package fresh_test

import (
	"math"
	"reflect"
	"slices"
	"testing"

	"gallipot/api"
	"gallipot/fresh"
)

var star = api.Pred{Op: api.Star}

func and(kids ...api.Pred) api.Pred { return api.Pred{Op: api.And, Kids: kids} }
func or(kids ...api.Pred) api.Pred  { return api.Pred{Op: api.Or, Kids: kids} }
func not(kids ...api.Pred) api.Pred { return api.Pred{Op: api.Not, Kids: kids} }

// bush is a filter with two parts to the power of levels and 1, less 1, as its Kids share memory.
func bush(levels int) api.Pred {
	p := star
	for range levels {
		p = and(p, p)
	}
	return p
}

// deep is a filter of so many parts, each within the one ahead of it.
func deep(parts int) api.Pred {
	p := star
	for range parts - 1 {
		p = not(p)
	}
	return p
}

// wide is a filter of so many parts, all but one of them its Kids.
func wide(parts int) api.Pred { return or(slices.Repeat([]api.Pred{star}, parts-1)...) }

// filters may be, or may not; they are small, and made anew with each call, with room behind their Kids.
func filters() []api.Pred {
	l := []api.Pred{
		{}, star, {Op: api.Near, At: 3 - 4i, N: 8}, {Op: api.Near, At: complex(math.Inf(-1), math.Copysign(0, -1))}, {Op: -7, Text: "A", N: math.MinInt},
		and(), not(star), not(), or(and(star, not(star)), api.Pred{Op: api.Prefix, Text: "ab"}, or(star, star)), and(or(star), and(not(or(star, star)))),
		{Op: api.Star, Kids: []api.Pred{{Op: 99, N: 1}}},
	}
	for i := range l {
		l[i].Kids = append(l[i].Kids, api.Pred{N: 77}, api.Pred{N: 78})[:len(l[i].Kids)]
	}
	return l
}

// knowns may be, or may not, as those aren't plain; they are made anew with each call, with room behind their pieces and Ids.
func knowns() []api.Know {
	ids := func(l ...string) []string { return append(l, "room", "room")[:len(l)] }
	l := []api.Frag{
		{Ids: ids("b", "a", "b"), Vec: api.Vec{1, -2, 3}}, {Ids: ids(), Vec: api.Vec{1}}, {Ids: ids("A", ""), Vec: api.Vec{}},
		{Ids: nil, Vec: api.Vec{9}}, {Ids: ids("a"), Vec: api.Vec{1, -2, 3}}, {Ids: ids("room"), Vec: api.Vec{7}},
	}
	return []api.Know{{}, {Star: api.Vec{5, 0, -1}, L: l[:5]}, {L: l[:0]}, {Star: api.Vec{0, 2000}, L: l[5:]}}
}

// states may be, or may not; they are made anew with each call.
func states() []api.State {
	items := func(n int) []api.Item {
		var l []api.Item
		for i := range n {
			l = append(l, api.Item{Id: string(rune('z' - i)), Ver: api.Ver{R: i, C: -i}, Stamp: 3, Kind: "K", Num: i, At: 2i, Dead: i%2 == 0})
		}
		return append(l, api.Item{Id: "room"})[:n]
	}
	var l []api.State
	for i, f := range filters() {
		l = append(l, api.State{R: i, F: f, Store: items(i), Out: items(3 * i % 5), K: knowns()[i%4], Count: -i, Clock: 2 * i, Epoch: 7})
	}
	return append(l, api.State{})
}

// scribble writes over all that v has, behind the lengths of its lists, too.
func scribble(v reflect.Value) {
	switch v.Kind() {
	case reflect.Struct:
		for i := range v.NumField() {
			scribble(v.Field(i))
		}
	case reflect.Slice:
		for i := range v.Cap() {
			scribble(v.Slice(0, v.Cap()).Index(i))
		}
	case reflect.Int:
		v.SetInt(-99)
	case reflect.String:
		v.SetString("over")
	}
}

// behind tells v with what stands behind the lengths of its lists.
func behind(v reflect.Value) reflect.Value {
	w := reflect.New(v.Type()).Elem()
	w.Set(v)
	switch v.Kind() {
	case reflect.Struct:
		for i := range v.NumField() {
			w.Field(i).Set(behind(v.Field(i)))
		}
	case reflect.Slice:
		w.Set(reflect.MakeSlice(v.Type(), v.Cap(), v.Cap()))
		for i := range v.Cap() {
			w.Index(i).Set(behind(v.Slice(0, v.Cap()).Index(i)))
		}
	}
	return w
}

// places tells where each element of each list of v stands.
func places(v reflect.Value) []uintptr {
	var l []uintptr
	switch v.Kind() {
	case reflect.Struct:
		for i := range v.NumField() {
			l = append(l, places(v.Field(i))...)
		}
	case reflect.Slice:
		for i := range v.Len() {
			l = append(append(l, v.Index(i).Addr().Pointer()), places(v.Index(i))...)
		}
	}
	return l
}

// check asks of each of what anew tells that it is told as it is, in new memory, of which no two lists share any, and left as it is.
func check[T any](t *testing.T, anew func() []T, call func(x T) T) {
	t.Helper()
	same := func(a, b T) bool { return reflect.DeepEqual(a, b) }
	for i := range anew() {
		all := func(x T) T { return behind(reflect.ValueOf(x)).Interface().(T) }
		x := anew()[i]
		got := call(x)
		if !same(got, anew()[i]) || !same(all(x), all(anew()[i])) {
			t.Fatalf("of %+v came %+v", anew()[i], got)
		}
		l := places(reflect.ValueOf(got))
		if slices.Sort(l); len(slices.Compact(slices.Clone(l))) != len(l) {
			t.Fatalf("of %+v came %+v, of which two lists share memory", anew()[i], got)
		}
		scribble(reflect.ValueOf(&x).Elem())
		if !same(got, anew()[i]) {
			t.Fatalf("of %+v, written over, came %+v", anew()[i], got)
		}
		x = anew()[i]
		got = call(x)
		scribble(reflect.ValueOf(&got).Elem())
		if !same(all(x), all(anew()[i])) {
			t.Fatalf("what came of %+v was written over: %+v", anew()[i], x)
		}
	}
}

func TestFresh(t *testing.T) { // R2
	check(t, filters, fresh.Filter)
	check(t, filters, fresh.Whole)
	check(t, knowns, fresh.Know)
	check(t, states, fresh.State)
	check(t, func() []api.Pred {
		return []api.Pred{deep(1000), wide(2000), or(wide(20), deep(300), wide(500)), bush(8)}
	}, fresh.Filter)
	check(t, func() []api.Pred {
		return []api.Pred{wide(1<<16 + 1), or(wide(1<<15), deep(1000), not(bush(15)))}
	}, fresh.Whole)
}

// TestWhole asks that filters with more parts than small ones have are told in new memory, and those with more than one call may tell as they are, in time: R2, P1.
func TestWhole(t *testing.T) {
	for i, p := range []api.Pred{wide(1 << 20), deep(1<<16 + 1), bush(19), not(wide(10), bush(18)), or(slices.Repeat([]api.Pred{and(star)}, 1<<19)...)} {
		got := fresh.Whole(p)
		if got.Op != p.Op || len(got.Kids) != len(p.Kids) || &got.Kids[0] == &p.Kids[0] {
			t.Errorf("filter %d isn't told in new memory", i)
		}
	}
	for i, p := range []api.Pred{bush(25), bush(60), not(star, bush(60)), or(slices.Repeat([]api.Pred{bush(60)}, 1000)...)} {
		if got := fresh.Whole(p); got.Op != p.Op || len(got.Kids) != len(p.Kids) || &got.Kids[0] != &p.Kids[0] {
			t.Errorf("filter %d, with more parts than may be told, is told as another one", i)
		}
	}
}

func TestSmall(t *testing.T) { // P1
	for i, p := range slices.Concat(filters(), []api.Pred{
		deep(1 << 16), wide(1 << 16), bush(15), or(deep(1<<15), wide(1<<15-1)), not(bush(15)), not(bush(14), bush(14)), or(slices.Repeat([]api.Pred{bush(4)}, 2114)...),
	}) {
		if !fresh.Small(p) {
			t.Errorf("small filter %d isn't", i)
		}
	}
	for i, p := range []api.Pred{
		deep(1<<16 + 1), wide(1<<16 + 1), or(deep(1<<15), wide(1<<15)), and(bush(15), star), bush(16), bush(60), not(star, bush(60)), or(slices.Repeat([]api.Pred{bush(60)}, 1000)...), or(slices.Repeat([]api.Pred{bush(4)}, 2115)...),
	} {
		if fresh.Small(p) {
			t.Errorf("large filter %d is small", i)
		}
		// It is told as it is, and in time.
		if got := fresh.Filter(p); got.Op != p.Op || len(got.Kids) != len(p.Kids) || &got.Kids[0] != &p.Kids[0] {
			t.Errorf("large filter %d is told as another one", i)
		}
		if got := fresh.State(api.State{R: 3, F: p}); got.R != 3 || got.F.Op != p.Op || len(got.F.Kids) != len(p.Kids) {
			t.Errorf("a state with large filter %d is told as another one", i)
		}
	}
}
