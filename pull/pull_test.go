package pull_test

import (
	"math"
	"math/rand"
	"reflect"
	"slices"
	"testing"

	"gallipot/api"
	"gallipot/ask"
	"gallipot/contain"
	"gallipot/eval"
	"gallipot/hand"
	"gallipot/item"
	"gallipot/know"
	"gallipot/list"
	"gallipot/local"
	"gallipot/pull"
	"gallipot/recv"
	"gallipot/serve"
	"gallipot/take"
)

var (
	star = api.Pred{Op: api.Star}
	none = api.Pred{Op: api.None}
)

func and(kids ...api.Pred) api.Pred { return api.Pred{Op: api.And, Kids: kids} }
func or(kids ...api.Pred) api.Pred  { return api.Pred{Op: api.Or, Kids: kids} }
func not(kids ...api.Pred) api.Pred { return api.Pred{Op: api.Not, Kids: kids} }
func less(n int) api.Pred           { return api.Pred{Op: api.Less, N: n} }
func more(n int) api.Pred           { return api.Pred{Op: api.More, N: n} }
func kind(s string) api.Pred        { return api.Pred{Op: api.Kind, Text: s} }

// below9 has what Less 9 has, and has Kids of Kids, so that much of it lies in memory of its own.
func below9() api.Pred { return or(less(9), and(kind("pot"), none), not(star)) }

// made is the item of that Id and number, in the version of that replica and count.
func made(id string, num, r, c, stamp int) api.Item {
	return api.Item{Id: id, Ver: api.Ver{R: r, C: c}, Stamp: stamp, Kind: "pot", Num: num, At: 3 - 4i}
}

// dead is x, but Dead.
func dead(x api.Item) api.Item {
	x.Dead = true
	return x
}

// frag is a piece of those counts and Ids.
func frag(v api.Vec, ids ...string) api.Frag { return api.Frag{Ids: ids, Vec: v} }

// whole knows all versions.
func whole() api.Know {
	return api.Know{Star: api.Vec{1000, 1000, 1000, 1000, 1000, 1000, 1000, 1000}}
}

// name is an Id, of each i below 676 another one; they rise.
func name(i int) string { return string([]byte{byte('a' + i/26), byte('a' + i%26)}) }

// filters may be; Star is the first one alone.
func filters() []api.Pred {
	return []api.Pred{
		star, none, kind(""), kind("pot"), {Op: api.Prefix, Text: "a"}, {Op: api.Prefix}, less(5), more(5), more(-1000000), {Op: api.Near, At: 3 - 4i, N: 0}, {Op: api.Near, At: -1000i, N: 8000000},
		and(), or(), and(star), or(star), or(less(5), kind("cup")), or(less(5), more(5)), not(less(5)), not(none), not(not(star)), below9(), or(slices.Repeat([]api.Pred{kind("pot")}, 29)...), not(not(not(not(not(star))))), or(and(less(5), or(star)), and(not(below9()))),
	}
}

// oddFilters may not be.
func oddFilters() []api.Pred {
	return []api.Pred{
		{}, {Op: -1}, {Op: 11}, {Op: math.MaxInt, Text: "A", N: math.MinInt, At: 9, Kids: []api.Pred{star}}, not(), not(star, star), not(not()), kind("A"), less(1000001), and(api.Pred{}, or(api.Pred{Op: 99})),
		{Op: api.Near, At: complex(math.NaN(), math.Inf(-1)), N: -1}, {Op: api.Near, At: 1001}, or(slices.Repeat([]api.Pred{star}, 30)...), not(not(not(not(not(not(star)))))), and(below9(), not(api.Pred{Op: 11})),
	}
}

// knowns may be.
func knowns() []api.Know {
	return []api.Know{
		{}, whole(), {Star: api.Vec{1, 2, 3, 4, 5, 6, 7, 8}}, {Star: api.Vec{1000, 7: 1000}}, {L: []api.Frag{frag(api.Vec{7: 1}, "a")}}, {L: []api.Frag{frag(api.Vec{1, 2}, "a", "b", "c", "zzzzzzzz")}}, {L: []api.Frag{frag(api.Vec{1000}, "a")}},
		{Star: api.Vec{0, 2}, L: []api.Frag{frag(api.Vec{1}, "a", "d"), frag(api.Vec{0, 3}, "b", "e", "g"), frag(api.Vec{4, 5, 6}, "c")}}, base().K,
	}
}

// oddKnowns may not be: each for one reason, but for the last one.
func oddKnowns() []api.Know {
	l := []api.Know{
		{L: []api.Frag{{}}}, {L: []api.Frag{frag(api.Vec{1})}}, {L: []api.Frag{frag(api.Vec{1}, "a"), frag(api.Vec{2})}}, {L: []api.Frag{{Ids: []string{}, Vec: api.Vec{1}}}}, {L: []api.Frag{frag(api.Vec{}, "a")}},
		{L: []api.Frag{frag(api.Vec{1}, "b", "a")}}, {L: []api.Frag{frag(api.Vec{1}, "a", "a")}}, {L: []api.Frag{frag(api.Vec{2}, "b"), frag(api.Vec{1}, "a")}}, {L: []api.Frag{frag(api.Vec{2}, "a"), frag(api.Vec{2}, "b")}}, {L: []api.Frag{frag(api.Vec{2}, "a"), frag(api.Vec{2}, "a")}}, {L: []api.Frag{frag(api.Vec{2}, "a"), frag(api.Vec{3}, "a", "b")}}, {L: []api.Frag{frag(api.Vec{1}, "a", "d"), frag(api.Vec{2}, "c"), frag(api.Vec{3}, "b")}},
		{Star: api.Vec{3}, L: []api.Frag{frag(api.Vec{3}, "a")}}, {Star: api.Vec{3}, L: []api.Frag{frag(api.Vec{2, 4}, "a")}}, {L: []api.Frag{frag(api.Vec{1, -1}, "a")}}, {L: []api.Frag{frag(api.Vec{math.MaxInt, math.MinInt}, "a", "\xff\x00")}},
	}
	for _, id := range []string{"", "A", "Z", "`", "{", "a b", "aB", "a1", "a\x00", "ä", "\xff", "abcdefghi", "abcdefgh\x00"} {
		l = append(l, api.Know{L: []api.Frag{frag(api.Vec{1}, id)}})
	}
	for i := range 8 {
		for _, n := range []int{math.MinInt, -1, 1001, math.MaxInt} {
			v := api.Vec{}
			v[i] = n
			l = append(l, api.Know{Star: v}, api.Know{L: []api.Frag{frag(v, "a")}})
		}
	}
	return l
}

// numbers are of any replica, count, or session, or of none.
func numbers() []int {
	return []int{math.MinInt, math.MinInt + 1, -1 << 32, -3, -1, 0, 1, 2, 3, 4, 5, 6, 7, 8, 9, 40, 41, 1000, 1001, 999999, 1000000, 1000001, 1 << 32, math.MaxInt - 1, math.MaxInt}
}

// roomy is v in memory of its own, with room behind all its lists, in which something stands.
func roomy(v reflect.Value) reflect.Value {
	w := reflect.New(v.Type()).Elem()
	switch v.Kind() {
	case reflect.Struct:
		for i := range v.NumField() {
			w.Field(i).Set(roomy(v.Field(i)))
		}
	case reflect.Slice:
		w.Set(reflect.MakeSlice(v.Type(), v.Len()+3, v.Len()+3))
		for i := range w.Len() {
			if i < v.Len() {
				w.Index(i).Set(roomy(v.Index(i)))
			} else {
				scribble(w.Index(i))
			}
		}
		w.SetLen(v.Len())
	default:
		w.Set(v)
	}
	return w
}

// copyOf is v in memory of its own, with room behind all its lists.
func copyOf[T any](v T) T { return roomy(reflect.ValueOf(v)).Interface().(T) }

// scribble writes over all of v, what stands behind its lists, too.
func scribble(v reflect.Value) {
	switch v.Kind() {
	case reflect.Struct:
		for i := range v.NumField() {
			scribble(v.Field(i))
		}
	case reflect.Slice:
		for i := range v.Cap() {
			scribble(v.Slice(0, v.Cap()).Index(i))
		}
	case reflect.Array:
		for i := range v.Len() {
			scribble(v.Index(i))
		}
	case reflect.Int:
		v.SetInt(99)
	case reflect.String:
		v.SetString("over")
	case reflect.Complex128:
		v.SetComplex(99)
	case reflect.Bool:
		v.SetBool(true)
	}
}

// overwrite writes over all that v has.
func overwrite[T any](v T) { scribble(reflect.ValueOf(&v).Elem()) }

// places puts where each element of each list of v stands, behind their lengths, too, behind l.
func places(l []uintptr, v reflect.Value) []uintptr {
	switch v.Kind() {
	case reflect.Struct:
		for i := range v.NumField() {
			l = places(l, v.Field(i))
		}
	case reflect.Slice:
		v = v.Slice(0, v.Cap())
		for i := range v.Len() {
			l = places(append(l, v.Index(i).Addr().Pointer()), v.Index(i))
		}
	}
	return l
}

// alikeValues tells whether both are written alike, with what stands behind their lists, if behind asks for it: nil and empty are one, no number is like itself, and -0 isn't 0.
func alikeValues(a, b reflect.Value, behind bool) bool {
	switch a.Kind() {
	case reflect.Struct:
		for i := range a.NumField() {
			if !alikeValues(a.Field(i), b.Field(i), behind) {
				return false
			}
		}
		return true
	case reflect.Slice:
		if a.Len() != b.Len() || behind && a.Cap() != b.Cap() {
			return false
		}
		if behind {
			a, b = a.Slice(0, a.Cap()), b.Slice(0, b.Cap())
		}
		for i := range a.Len() {
			if !alikeValues(a.Index(i), b.Index(i), behind) {
				return false
			}
		}
		return true
	case reflect.Complex128:
		bits := func(c complex128) [2]uint64 { return [2]uint64{math.Float64bits(real(c)), math.Float64bits(imag(c))} }
		return bits(a.Complex()) == bits(b.Complex())
	}
	return a.Interface() == b.Interface()
}

// alike tells whether both are written alike.
func alike[T any](a, b T) bool { return alikeValues(reflect.ValueOf(a), reflect.ValueOf(b), false) }

// untouched tells whether v is what copyOf told of was, behind all its lists, too.
func untouched[T any](v, was T) bool {
	return alikeValues(reflect.ValueOf(v), reflect.ValueOf(copyOf(was)), true)
}

// checkApart asks that no two lists of got, or one of got and one of those that were handed in, share memory: P15.2, R2.
func checkApart(t *testing.T, got any, in ...any) {
	t.Helper()
	taken := map[uintptr]bool{}
	for _, v := range in {
		for _, p := range places(nil, reflect.ValueOf(v)) {
			taken[p] = true
		}
	}
	for _, p := range places(nil, reflect.ValueOf(got)) {
		if taken[p] {
			t.Fatalf("of %+v came %+v, of which two lists, or one and one that was handed in, share memory", in, got)
		}
		taken[p] = true
	}
}

// ids are those of l, one behind the other.
func ids(l []api.Item) string {
	all := ""
	for _, x := range l {
		all += x.Id
	}
	return all
}

// pick is one of l.
func pick[T any](r *rand.Rand, l ...T) T { return l[r.Intn(len(l))] }

// state is replica r with filter f, with those items in Store or Out, of which it knows each.
func state(r int, f api.Pred, l ...api.Item) api.State {
	s := api.State{R: r, F: f}
	for _, x := range l {
		if eval.Has(f, x) {
			s.Store = list.Put(s.Store, x)
		} else {
			s.Out = list.Put(s.Out, x)
		}
		if s.K = know.With(s.K, x.Id, x.Ver); x.Ver.R == r {
			s.Count = max(s.Count, x.Ver.C)
		}
		s.Clock = max(s.Clock, x.Stamp)
	}
	return s
}

// knowing is s, that knows k, too.
func knowing(s api.State, k api.Know) api.State {
	s.K = know.Join(s.K, k)
	return s
}

// many are n items of that number, that replica r made, with the Ids from name(i) on.
func many(n, i, num, r int) []api.Item {
	var l []api.Item
	for c := range n {
		l = append(l, made(name(i+c), num, r, c+1, c+1))
	}
	return l
}

// base is replica 3, that may be: a, c and e in Store, b, d, g, k and n in Out, c and d Dead, e, b and k of its own; it knows versions of f and h, too.
func base() api.State {
	return api.State{
		R: 3, F: below9(),
		Store: []api.Item{made("a", 3, 2, 5, 6), dead(made("c", 4, 1, 2, 4)), made("e", 8, 3, 1, 3)},
		Out:   []api.Item{made("b", 9, 3, 2, 2), dead(made("d", 12, 2, 7, 9)), made("g", 9, 1, 4, 5), made("k", 30, 3, 4, 8), made("n", 9, 8, 1000, 7)},
		K: api.Know{Star: api.Vec{1, 0, 1}, L: []api.Frag{
			frag(api.Vec{0, 5}, "a"), frag(api.Vec{0, 0, 2}, "b"), frag(api.Vec{2}, "c"), frag(api.Vec{0, 7}, "d", "f", "h"), frag(api.Vec{4}, "g"), frag(api.Vec{0, 0, 4}, "k"), frag(api.Vec{7: 1000}, "n"),
		}},
		Count: 4, Clock: 9, Epoch: 4,
	}
}

// above20 is a filter that below9 is seen in.
func above20() api.Pred { return or(less(20), not(star)) }

// other is replica 5, that may be, of which base may be told much: c and h, and a and e are to go there.
func other() api.State {
	return api.State{
		R: 5, F: above20(),
		Store: []api.Item{made("c", 5, 5, 3, 9), made("e", 9, 5, 4, 11), dead(made("h", 2, 5, 5, 10))},
		Out:   []api.Item{made("g", 20, 5, 2, 7), made("k", 31, 1, 7, 12)},
		K: api.Know{Star: api.Vec{0, 0, 1, 0, 5}, L: []api.Frag{
			frag(api.Vec{0, 6}, "a", "m"), frag(api.Vec{3, 0, 2}, "c"), frag(api.Vec{0, 0, 4}, "e"), frag(api.Vec{7}, "k"),
		}},
		Count: 5, Clock: 13, Epoch: 1,
	}
}

// told is all that From told.
type told struct {
	A, B api.State
	Over bool
}

// from tells what From tells.
func from(a, b api.State) told {
	a, b, over := pull.From(a, b)
	return told{a, b, over}
}

// beyond tells whether k knows versions of s's own that it didn't make.
func beyond(s api.State, k api.Know) bool {
	if k.Star[s.R-1] > s.Count {
		return true
	}
	for _, f := range k.L {
		if f.Vec[s.R-1] > s.Count {
			return true
		}
	}
	return false
}

// wanted tells what From is to tell, by what the chapters say of items, without messages; both may be.
func wanted(a, b api.State) told {
	if a.R == b.R {
		return told{a, b, false}
	}
	was, all, over := a, list.Both(b.Store, b.Out), true
	for _, x := range all {
		if eval.Has(a.F, x) && !know.Has(was.K, x.Id, x.Ver) {
			var err error
			a, err = recv.Item(a, x)
			over = over && err == nil
		}
	}
	for _, h := range was.Store {
		if x, there := list.Get(all, h.Id); there && !eval.Has(a.F, x) && item.Compare(x, h) > 0 {
			a = recv.Goes(a, h.Id, h.Ver, x.Ver)
		}
	}
	seen := contain.In(a.F, b.F)
	if !over || seen && beyond(a, b.K) {
		return told{a, b, false}
	}
	for _, h := range was.Store {
		if _, there := list.Get(all, h.Id); seen && !there && know.Has(b.K, h.Id, h.Ver) {
			a = recv.Goes(a, h.Id, h.Ver, api.Ver{})
		}
	}
	if seen {
		a.K = know.Join(a.K, b.K)
	}
	if a.F.Op == 1 {
		var left []api.Item
		for _, x := range b.Out {
			if !know.Has(a.K, x.Id, x.Ver) {
				left = append(left, x)
			}
		}
		b.Out = left
	}
	return told{a, b, true}
}

// byHand tells what the calls of the layers below tell, in a session of that number, and an answer in that turn.
func byHand(t *testing.T, a, b api.State, sid, turn int) told {
	t.Helper()
	x, m := ask.Open(a, b.R, sid)
	for _, m := range serve.Answer(b, m, turn) {
		a, x, _ = take.Msg(a, x, m)
	}
	if x.Over {
		var err error
		if b, err = hand.Take(b, hand.Ack(a, b.R)); err != nil {
			t.Fatal(err)
		}
	}
	return told{a, b, x.Over}
}

// checkIs asks for what is told, and that it is new memory: P15.1, P15.2, R2.
func checkIs(t *testing.T, wasA, wasB api.State, want told) {
	t.Helper()
	a, b := copyOf(wasA), copyOf(wasB)
	got := from(a, b)
	if !alike(got, want) {
		t.Fatalf("From(%+v, %+v) =\n%+v, want\n%+v", wasA, wasB, got, want)
	}
	if !untouched(a, wasA) || !untouched(b, wasB) {
		t.Fatalf("From(%+v, %+v) changed them: %+v, %+v", wasA, wasB, a, b)
	}
	checkApart(t, got, a, b)
	want = copyOf(want)
	overwrite(a)
	if overwrite(b); !alike(got, want) {
		t.Fatalf("of %+v and %+v came %+v, and %+v once they are written over", wasA, wasB, want, got)
	}
	a, b = copyOf(wasA), copyOf(wasB)
	got = from(a, b)
	if overwrite(got.A); !alike(got.B, want.B) {
		t.Fatalf("of %+v and %+v came %+v, and %+v once the other one is written over", wasA, wasB, want.B, got.B)
	}
	if overwrite(got.B); !untouched(a, wasA) || !untouched(b, wasB) {
		t.Fatalf("%+v, %+v once what came of them is written over", a, b)
	}
	// Nothing is kept, so that the same is told once more.
	if got = from(a, b); !alike(got, want) {
		t.Fatalf("From(%+v, %+v) the next time = %+v", wasA, wasB, got)
	}
}

// check asks of states that may be for what the chapter's sentences say, that it is new memory, and for what follows: P15.1 to P15.3.
func check(t *testing.T, a, b api.State) told {
	t.Helper()
	if !local.May(a) || !local.May(b) {
		t.Fatalf("%v, %v: %+v, %+v", local.May(a), local.May(b), a, b)
	}
	checkIs(t, a, b, wanted(copyOf(a), copyOf(b)))
	got := from(a, b)
	if !local.May(got.A) || !local.May(got.B) {
		t.Fatalf("of %+v and %+v came %+v, which may not be", a, b, got)
	}
	if a.R == b.R {
		if !alike(got, told{a, b, false}) {
			t.Fatalf("of %+v and %+v, of one R, came %+v", a, b, got)
		}
		return got
	}
	checkTaker(t, a, got.A)
	if !got.Over {
		if !alike(got.B, b) {
			t.Fatalf("it isn't over, and b became %+v", got.B)
		}
		return got
	}
	checkOver(t, a, b, got)
	return got
}

// checkTaker asks that a goes on to know what it knew, and that of its Out what went has one in Store that came behind it.
func checkTaker(t *testing.T, a, then api.State) {
	t.Helper()
	if !know.Same(know.Join(then.K, a.K), then.K) || then.Clock < a.Clock || len(then.Out) > len(a.Out) {
		t.Fatalf("%+v became %+v", a, then)
	}
	for _, x := range a.Out {
		y, there := list.Get(then.Store, x.Id)
		if there == slices.Contains(then.Out, x) || there && item.Compare(y, x) <= 0 {
			t.Fatalf("%+v stood in Out of %+v, which became %+v", x, a, then)
		}
	}
	then.Store, then.Out, then.K, then.Clock = a.Store, a.Out, a.K, a.Clock
	if !alike(then, a) {
		t.Fatalf("%+v became %+v", a, then)
	}
}

// checkOver asks what holds of a pull that is over: P15.1, P15.3.
func checkOver(t *testing.T, a, b api.State, got told) {
	t.Helper()
	rest, was := got.B, b
	rest.Out, was.Out = nil, nil
	if !alike(rest, was) {
		t.Fatalf("of %+v came %+v: more than Out has changed", b, got.B)
	}
	// Who has all has what stood in the way; who hasn't leaves it there.
	if a.F.Op == api.Star && len(got.B.Out) > 0 || a.F.Op != api.Star && !alike(got.B, b) {
		t.Fatalf("of %+v came %+v", b, got.B)
	}
	if contain.In(a.F, b.F) && !know.Same(know.Join(got.A.K, b.K), got.A.K) {
		t.Fatalf("%+v doesn't know what %+v knows", got.A, b)
	}
	for _, x := range list.Both(b.Store, b.Out) {
		if eval.Has(a.F, x) && !know.Has(got.A.K, x.Id, x.Ver) {
			t.Fatalf("%+v doesn't know %+v", got.A, x)
		}
	}
	if again := from(got.A, got.B); !alike(again, got) {
		t.Fatalf("of %+v and %+v came %+v, and the second time %+v", a, b, got, again)
	}
}

// expect asks of a pull for the Ids of Store and Out on both sides, a's Store ahead of its Out, then b's, and for whether it is over.
func expect(t *testing.T, a, b api.State, over bool, want ...string) told {
	t.Helper()
	got := check(t, a, b)
	have := []string{ids(got.A.Store), ids(got.A.Out), ids(got.B.Store), ids(got.B.Out)}
	if got.Over != over || !slices.Equal(have, want) {
		t.Errorf("of %+v and %+v came %q, %v, want %q, %v", a, b, have, got.Over, want, over)
	}
	return got
}

// TestPulled writes out what comes of a pull, of one of nothing, and of one by who has all.
func TestPulled(t *testing.T) { // P15.1, P15.3
	want := api.State{
		R: 3, F: below9(), Count: 4, Clock: 10, Epoch: 4,
		Store: []api.Item{made("c", 5, 5, 3, 9), dead(made("h", 2, 5, 5, 10))},
		Out:   base().Out,
		K: api.Know{Star: api.Vec{1, 0, 1, 0, 5}, L: []api.Frag{
			frag(api.Vec{0, 6}, "a", "m"), frag(api.Vec{0, 0, 2}, "b"), frag(api.Vec{3, 0, 2}, "c"), frag(api.Vec{0, 7}, "d", "f", "h"), frag(api.Vec{0, 0, 4}, "e"), frag(api.Vec{4}, "g"), frag(api.Vec{7, 0, 4}, "k"), frag(api.Vec{7: 1000}, "n"),
		}},
	}
	check(t, base(), other())
	checkIs(t, base(), other(), told{want, other(), true})
	for i := range 8 {
		nothing := api.State{R: i + 1, F: less(i)}
		check(t, nothing, api.State{R: (i+1)%8 + 1, F: none})
		checkIs(t, nothing, api.State{R: (i+1)%8 + 1, F: none}, told{nothing, api.State{R: (i+1)%8 + 1, F: none}, true})
	}
	root, left := api.State{R: 1, F: star}, other()
	left.Out = nil
	want = api.State{R: 1, F: star, Store: list.Both(other().Store, other().Out), Clock: 12}
	for _, x := range want.Store {
		want.K = know.With(want.K, x.Id, x.Ver)
	}
	root.Count, want.Count = 7, 7
	check(t, root, other())
	checkIs(t, root, other(), told{want, left, true})
}

// TestSame pulls of one R: both are as they were handed in, wherever else they are unlike.
func TestSame(t *testing.T) { // P15.1, P15.2
	for r := 1; r <= 8; r++ {
		l := []api.State{{R: r, F: star}, state(r, less(5), many(9, 0, 3, r%8+1)...), state(r, above20(), many(40, 0, 7, r)...), state(r, star, made("a", 1, r, 3, 4)), state(r, none, made("a", 2, r, 1, 9), dead(made("b", 2, r, 2, 3)))}
		one, two := base(), other()
		one.R, one.Count, two.R, two.Count = r, 1000, r, 1000
		for i, a := range append(l, one, two) {
			for k, b := range append(l, one, two) {
				a.Epoch, b.Clock = i, 1000+k
				if got := check(t, a, b); got.Over {
					t.Errorf("of one R, %d, it is over", r)
				}
			}
		}
		// They may stand in one memory.
		s := copyOf(one)
		got := from(s, s)
		checkApart(t, got, s)
		if !alike(got, told{one, one, false}) {
			t.Errorf("of one: %+v", got)
		}
	}
	for _, r := range numbers() {
		one, two := base(), other()
		one.R, two.R = r, r
		checkIs(t, one, two, told{one, two, false})
	}
}

// TestReplicas pulls from each replica by each, in a session, and an answer, as any other would be.
func TestReplicas(t *testing.T) { // P15.1
	for i := 1; i <= 8; i++ {
		for k := 1; k <= 8; k++ {
			a, b := base(), other()
			a.R, a.Count, b.R, b.Count = i, 1000, k, 1000
			got := check(t, a, b)
			if got.Over != (i != k) {
				t.Errorf("%d from %d: %+v", i, k, got)
			}
			if i == k {
				continue
			}
			for _, sid := range []int{0, 1, 2, 1000000} {
				for _, turn := range []int{1, 2, math.MaxInt} {
					if by := byHand(t, a, b, sid, turn); !alike(got, by) {
						t.Errorf("From(%+v, %+v) = %+v, in session %d, turn %d %+v", a, b, got, sid, turn, by)
					}
				}
			}
			if by := byHand(t, a, b, 1, 0); by.Over || alike(by, got) {
				t.Errorf("in turn 0 came %+v", by)
			}
		}
	}
}

// TestCounts pulls answers of 0 to 40 items: of what stands in Store, in Out, and in both, by who has all, and by others.
func TestCounts(t *testing.T) { // P15.1, P15.3
	for n := range 41 {
		l := many(n, 0, 4, 6)
		half := slices.Clone(l)
		for i := range half {
			half[i].Num = i % 5
			half[i].Dead = i%7 == 0
		}
		for _, v := range []struct {
			f api.Pred
			l []api.Item
		}{{less(5), l}, {less(3), l}, {less(2), half}, {star, half}, {none, half}} {
			b := state(2, v.f, v.l...)
			for _, f := range []api.Pred{star, less(5), and(), or(more(0), kind("pot"))} {
				got := check(t, state(1, f), b)
				if !got.Over || !alike(got.A.Store, v.l) || len(got.A.Out) > 0 || got.A.Clock != n || !alike(got.B.Store, b.Store) {
					t.Errorf("of %d items came %+v", n, got)
				}
				if left := len(got.B.Out); f.Op == api.Star && left > 0 || f.Op != api.Star && left != len(b.Out) {
					t.Errorf("of %d items %d are left in Out: %+v", n, left, got)
				}
			}
			// Of what it knows nothing comes, and none of what its filter hasn't.
			a := knowing(state(1, less(5)), api.Know{Star: api.Vec{5: n / 2}})
			if got := check(t, a, b); !got.Over || !alike(got.A.Store, v.l[n/2:]) {
				t.Errorf("of %d items, of which half are known, came %+v", n, got)
			}
			if got := check(t, state(1, more(5)), b); !got.Over || len(got.A.Store) > 0 || len(got.A.K.L) > 0 && v.f.Op != 1 {
				t.Errorf("of %d items that aren't asked for came %+v", n, got)
			}
		}
	}
}

// TestMixed pulls answers of items, and of others that are to go, in batches that have both, up to 40 together.
func TestMixed(t *testing.T) { // P15.1
	for n := range 41 {
		for gone := 0; gone <= n; gone += 1 + n/8 {
			// Those that are to go stand in the middle, and go last.
			i := (n - gone) / 2
			new := many(n, 0, 1, 6)
			for k := range gone {
				new[i+k].Num, new[i+k].Stamp = 9, 50+k
			}
			a, b := state(1, less(5), many(gone, i, 2, 7)...), state(2, less(4), new...)
			got := check(t, a, b)
			want := slices.Concat(new[:i], new[i+gone:])
			if !got.Over || !alike(got.A.Store, want) || len(got.A.Out) > 0 || !alike(got.B, b) {
				t.Errorf("of %d, of which %d are to go, came %+v", n, gone, got)
			}
			for _, x := range new {
				if !know.Has(got.A.K, x.Id, x.Ver) {
					t.Errorf("%+v isn't known: %+v", x, got.A)
				}
			}
		}
	}
}

// TestGoes asks what goes by a batch, as another version came behind it that isn't asked for, and what stays.
func TestGoes(t *testing.T) { // P15.1
	for _, v := range []struct {
		at   api.Item
		f    api.Pred
		goes bool
	}{
		{made("c", 9, 4, 6, 7), less(20), true}, {made("c", 9, 4, 6, 7), less(3), true}, {made("c", 9, 4, 6, 7), star, true}, {dead(made("c", 9, 4, 6, 7)), none, true},
		// Of one Stamp the replica counts, then the count.
		{made("c", 9, 5, 1, 6), none, true}, {made("c", 9, 4, 6, 6), none, true}, {made("c", 9, 3, 6, 6), none, false}, {made("c", 9, 4, 5, 6), none, false}, {made("c", 9, 4, 4, 6), none, false}, {made("c", 9, 8, 900, 5), none, false},
		{made("d", 9, 4, 6, 7), none, false}, {made("b", 9, 4, 6, 7), less(20), false},
	} {
		for _, x := range []api.Item{made("c", 2, 4, 5, 6), dead(made("c", 2, 4, 5, 6))} {
			a, b, want := state(1, less(5), x, made("e", 1, 1, 1, 2)), state(2, v.f, v.at), "ce"
			if v.goes {
				want = "e"
			}
			got := expect(t, a, b, true, want, "", ids(b.Store), ids(b.Out))
			if v.goes && !know.Has(got.A.K, "c", v.at.Ver) || got.A.Clock != 6 {
				t.Errorf("%+v came behind: %+v", v.at, got.A)
			}
			// What stands in Out isn't told of, and stays.
			expect(t, state(1, kind("cup"), x), b, true, "", "c", ids(b.Store), ids(b.Out))
		}
	}
}

// TestLost asks what goes by Done, as b knows it, and has none of that Id, and what stays.
func TestLost(t *testing.T) { // P15.1
	c := know.With(api.Know{}, "c", api.Ver{R: 4, C: 5})
	for _, v := range []struct {
		f    api.Pred
		k    api.Know
		b    []api.Item
		want string
	}{
		{less(20), c, nil, "e"}, {less(5), c, nil, "e"}, {star, c, nil, "e"}, {or(none, less(6)), c, nil, "e"}, {not(none), c, nil, "ce"},
		{less(20), api.Know{Star: api.Vec{3: 5}}, nil, "e"}, {less(20), api.Know{Star: api.Vec{3: 1000}}, nil, "e"}, {less(20), api.Know{Star: api.Vec{1, 0, 0, 5}}, nil, ""}, {less(20), api.Know{Star: api.Vec{1}}, nil, "c"}, {star, api.Know{L: []api.Frag{frag(api.Vec{2, 0, 0, 7}, "c", "d", "e")}}, nil, ""},
		{less(20), api.Know{Star: api.Vec{0, 1000, 1000, 4, 1000}}, nil, "ce"}, {less(20), api.Know{L: []api.Frag{frag(api.Vec{3: 4}, "c")}}, nil, "ce"}, {less(20), api.Know{L: []api.Frag{frag(api.Vec{2, 2, 2, 7}, "b", "d", "f")}}, nil, "ce"}, {less(20), api.Know{L: []api.Frag{frag(api.Vec{2, 5}, "c")}}, nil, "ce"},
		// Where F isn't seen, b may have let it go for reasons of its own.
		{less(4), c, nil, "ce"}, {more(0), c, nil, "ce"}, {none, whole(), nil, "ce"}, {or(), whole(), nil, "ce"}, {and(none), whole(), nil, "ce"}, {and(), api.Know{Star: api.Vec{3: 5}}, nil, "e"}, {kind("pot"), api.Know{Star: api.Vec{1, 0, 0, 5}}, nil, "ce"},
		{less(20), c, []api.Item{made("c", 2, 4, 5, 6)}, "ce"}, {less(20), c, []api.Item{made("c", 30, 4, 4, 6)}, "ce"}, {less(20), c, []api.Item{made("c", 2, 4, 4, 5)}, "ce"}, {less(20), c, []api.Item{made("d", 30, 4, 6, 6), made("b", 9, 2, 1, 1)}, "e"}, {less(20), api.Know{Star: api.Vec{2, 2, 2, 7}}, []api.Item{made("c", 30, 3, 1, 1)}, "c"},
	} {
		for _, x := range []api.Item{made("c", 2, 4, 5, 6), dead(made("c", 2, 4, 5, 6))} {
			a, b := state(1, less(5), x, made("e", 1, 1, 1, 2), made("x", 7, 4, 2, 2)), knowing(state(2, v.f, v.b...), v.k)
			a.Count, b.Count = 2, 1000
			got := expect(t, a, b, true, v.want, "x", ids(b.Store), ids(b.Out))
			if k := know.Join(a.K, b.K); contain.In(a.F, b.F) && !know.Same(got.A.K, k) || !contain.In(a.F, b.F) && !know.Same(got.A.K, a.K) {
				t.Errorf("of %+v and %+v is known %+v", a, b, got.A.K)
			}
		}
	}
}

// TestFull asks what comes to an a that has no room for one item, for the first or the last one of a batch, or for some, in one batch and in several.
func TestFull(t *testing.T) { // P15.1
	for _, v := range []struct {
		has, new, come int
		over           bool
	}{
		{40, 0, 0, true}, {40, 1, 0, false}, {40, 5, 0, false}, {39, 1, 1, true}, {39, 2, 1, false}, {39, 9, 1, false},
		// The last one of a batch, the first one of the next, and the one behind that.
		{37, 3, 3, true}, {37, 4, 3, false}, {36, 4, 4, true}, {36, 5, 4, false}, {35, 5, 5, true}, {35, 6, 5, false}, {33, 8, 7, false}, {32, 8, 8, true}, {32, 9, 8, false}, {3, 40, 37, false}, {1, 40, 39, false}, {0, 40, 40, true},
	} {
		for _, f := range []api.Pred{less(5), and(), star} {
			for _, in := range []int{1, 9} {
				// What a has stands in Store, or in Out.
				a, b := state(1, f, many(v.has, 100, in, 1)...), state(2, less(2), many(v.new, 0, 2, 6)...)
				b.K.Star[6] = 9
				got := check(t, a, b)
				come := many(v.come, 0, 2, 6)
				if got.Over != v.over || !alike(got.A.Store, list.Both(a.Store, come)) || !alike(got.A.Out, a.Out) || (!v.over || f.Op != api.Star) && !alike(got.B, b) {
					t.Errorf("of %d, and %d that come: %+v", v.has, v.new, got)
				}
				k := a.K
				for _, x := range come {
					k = know.With(k, x.Id, x.Ver)
				}
				if v.over && contain.In(f, b.F) {
					k = know.Join(k, b.K)
				}
				if !alike(got.A.K, k) {
					t.Errorf("of %d, and %d that come, is known %+v, want %+v", v.has, v.new, got.A.K, k)
				}
			}
		}
	}
}

// TestFullGoes asks that what is to go makes room behind what comes, and so too late.
func TestFullGoes(t *testing.T) { // P15.1
	for _, v := range []struct {
		has, new, gone, come int
		over                 bool
	}{
		{40, 1, 1, 0, false}, {39, 2, 1, 1, false}, {38, 2, 1, 2, true}, {40, 5, 5, 0, false}, {36, 5, 9, 4, false}, {40, 0, 3, 0, true}, {40, 0, 40, 0, true}, {40, 1, 39, 0, false},
	} {
		newer := many(v.gone, 100, 9, 7)
		for i := range newer {
			newer[i].Stamp = 60
		}
		all := many(v.has, 100, 1, 1)
		a, b := state(1, less(5), all...), state(2, less(3), append(many(v.new, 0, 2, 6), newer...)...)
		got := check(t, a, b)
		if want := append(many(v.come, 0, 2, 6), all[v.gone:]...); got.Over != v.over || !alike(got.A.Store, want) || !alike(got.B, b) {
			t.Errorf("of %d, %d that come, and %d that are to go: %+v", v.has, v.new, v.gone, got)
		}
		// The second time there is room.
		if got = check(t, got.A, b); v.new <= v.gone && (!got.Over || !alike(got.A.Store, append(many(v.new, 0, 2, 6), all[v.gone:]...))) {
			t.Errorf("of %d, %d that come, and %d that went: %+v", v.has, v.new, v.gone, got)
		}
	}
}

// TestRoomMade pulls again once there is room: what had none comes then, and what b knows is known then alone.
func TestRoomMade(t *testing.T) { // P15.1, P15.3
	a := state(1, less(5), append(many(30, 0, 2, 1), many(10, 200, 9, 6)...)...)
	b := state(2, less(20), many(12, 100, 3, 7)...)
	b.K.Star[4] = 9
	got := check(t, a, b)
	if got.Over || !alike(got.A, a) || !alike(got.B, b) {
		t.Errorf("without room: %+v", got)
	}
	// Who has all lets a's Out go.
	root := check(t, state(3, star), a)
	if !root.Over || len(root.A.Store) != 40 || len(root.B.Store) != 30 || len(root.B.Out) > 0 {
		t.Fatalf("%+v", root)
	}
	got = check(t, root.B, b)
	if got.Over || !alike(got.A.Store, append(many(30, 0, 2, 1), many(10, 100, 3, 7)...)) || got.A.K.Star[4] > 0 {
		t.Errorf("with room for some: %+v", got)
	}
	// Once one more is let go, and another one, the others come.
	b.Store = append([]api.Item{made(name(0), 9, 7, 20, 90), made(name(1), 9, 7, 21, 91)}, b.Store...)
	b.Clock, b.K = 91, know.Join(b.K, api.Know{L: []api.Frag{frag(api.Vec{6: 20}, name(0)), frag(api.Vec{6: 21}, name(1))}})
	got = check(t, got.A, b)
	if got.Over || len(got.A.Store) != 38 {
		t.Errorf("what goes makes room behind: %+v", got)
	}
	got = check(t, got.A, b)
	if !got.Over || !alike(got.A.Store, append(many(30, 0, 2, 1)[2:], many(12, 100, 3, 7)...)) || got.A.K.Star[4] != 9 {
		t.Errorf("with room: %+v", got)
	}
}

// TestBehindNone asks that what is behind an item without room comes, and goes, in the same batch and in others, and that b's Out stays though a knows some of it.
func TestBehindNone(t *testing.T) { // P15.1
	for _, n := range []int{1, 2, 4, 5, 9} {
		a := state(1, star, many(40, 100, 3, 1)...)
		new := many(n, 0, 9, 6)
		newer := made(name(120), 9, 6, 30, 80)
		b := state(2, less(5), append(new, made(name(110), 9, 1, 11, 11), newer)...)
		got := check(t, a, b)
		want := list.Put(a.Store, newer)
		if got.Over || !alike(got.A.Store, want) || !alike(got.A.K, know.With(a.K, newer.Id, newer.Ver)) || got.A.Clock != 80 || !alike(got.B, b) {
			t.Errorf("behind %d without room: %+v", n, got)
		}
		a.F, b.F, b.Store, b.Out = less(5), none, nil, list.Both(b.Store, b.Out)
		for i := range n {
			b.Out[i].Num = 1
		}
		if got = check(t, a, b); got.Over || !alike(got.A.Store, list.Drop(a.Store, newer.Id)) || !know.Has(got.A.K, newer.Id, newer.Ver) || !alike(got.B, b) {
			t.Errorf("behind %d without room: %+v", n, got)
		}
	}
}

// TestStar asks that what stands in b's Out goes once who has all has it, whatever it knew of it, and that b's Store stays.
func TestStar(t *testing.T) { // P15.1, P15.3
	x, y := made("c", 9, 4, 5, 6), made("d", 9, 4, 6, 7)
	b := state(2, less(5), x, dead(y), made("e", 3, 2, 1, 8), dead(made("f", 4, 2, 2, 9)))
	ahead, behind := made("c", 1, 3, 7, 7), made("c", 1, 5, 1, 5)
	for _, v := range []struct {
		a    api.State
		want string
	}{
		{state(1, star), "cdef"}, {state(1, star, x), "cdef"}, {state(1, star, x, dead(y)), "cdef"}, {state(1, star, ahead), "cdef"}, {state(1, star, behind), "cdef"}, {state(1, star, made("a", 9, 1, 1, 1)), "acdef"},
		// What it knows already isn't answered, and goes as well.
		{knowing(state(1, star), api.Know{Star: api.Vec{3: 6}}), "ef"}, {knowing(state(1, star), api.Know{Star: api.Vec{3: 5}}), "def"}, {knowing(state(1, star), api.Know{L: []api.Frag{frag(api.Vec{3: 6}, "d")}}), "cef"}, {knowing(state(1, star, ahead), api.Know{L: []api.Frag{frag(api.Vec{3: 5}, "c"), frag(api.Vec{3: 6}, "d")}}), "cef"}, {knowing(state(1, star), api.Know{Star: api.Vec{0, 2, 0, 9}}), ""},
	} {
		got := expect(t, v.a, b, true, v.want, "", "ef", "")
		if z, there := list.Get(v.a.Store, "c"); there && z == ahead {
			if z, _ = list.Get(got.A.Store, "c"); z != ahead {
				t.Errorf("%+v stands there, by %+v", z, v.a)
			}
		}
		if !alike(got.B.K, b.K) || got.B.Count != b.Count || got.B.Clock != b.Clock {
			t.Errorf("%+v became %+v", b, got.B)
		}
	}
	// Of two who have all nothing stands in the way.
	expect(t, state(1, star, ahead), state(2, star, x, y), true, "cd", "", "cd", "")
	expect(t, state(1, star), state(2, none), true, "", "", "", "")
	for i := range 41 {
		got := check(t, state(1, star), state(2, none, many(i, 0, 3, 4)...))
		if !got.Over || len(got.A.Store) != i || len(got.B.Out) > 0 {
			t.Errorf("of %d in Out: %+v", i, got)
		}
	}
}

// TestOut asks that b's Out stays where a isn't Star, though it has all, and knows all.
func TestOut(t *testing.T) { // P15.1
	l := []api.Item{made("c", 9, 4, 5, 6), dead(made("d", 9, 4, 6, 7)), made("e", 3, 2, 1, 8)}
	b := state(2, less(5), l...)
	for _, f := range []api.Pred{and(), and(star), or(star), not(none), not(not(star)), more(-1000000), or(star, none), and(star, star), {Op: api.Prefix}} {
		expect(t, state(1, f), b, true, "cde", "", "e", "cd")
		expect(t, state(1, f, l...), b, true, "cde", "", "e", "cd")
		expect(t, knowing(state(1, f), know.Join(b.K, api.Know{Star: api.Vec{0, 1000, 1000, 1000}})), b, true, "", "", "e", "cd")
	}
	for _, f := range filters()[1:] {
		if got := check(t, state(1, f), b); !got.Over || ids(got.B.Out) != "cd" {
			t.Errorf("pulled by %+v: %+v", f, got)
		}
	}
}

// TestSeen asks what is known then: where F is seen in b's all that b knows, by Star's counts and by pieces; else of what it took alone.
func TestSeen(t *testing.T) { // P15.1, P15.3
	k := api.Know{Star: api.Vec{0, 3, 9}, L: []api.Frag{frag(api.Vec{3: 7}, "a", "z"), frag(api.Vec{0, 8, 0, 2}, "m")}}
	known := api.Know{Star: api.Vec{2, 0, 4}, L: []api.Frag{frag(api.Vec{4: 6}, "a", "q")}}
	x := made("b", 3, 6, 5, 2)
	took := know.Join(known, api.Know{L: []api.Frag{frag(api.Vec{5: 5}, "b")}})
	all := api.Know{Star: api.Vec{2, 3, 9}, L: []api.Frag{frag(api.Vec{3: 7, 4: 6}, "a"), frag(api.Vec{5: 5}, "b"), frag(api.Vec{0, 8, 0, 2}, "m"), frag(api.Vec{4: 6}, "q"), frag(api.Vec{3: 7}, "z")}}
	for _, v := range []struct {
		p, q api.Pred
		seen bool
	}{
		{less(5), less(5), true}, {less(5), less(6), true}, {less(5), less(4), false}, {less(5), star, true}, {star, star, true}, {star, less(5), false}, {star, and(), true}, {and(), star, true}, {and(), not(none), false}, {not(none), and(), true}, {or(less(4), kind("pot")), or(kind("pot"), less(5)), true}, {or(less(5), kind("pot")), less(5), false},
		{more(3), more(2), true}, {more(3), more(4), false}, {less(4), or(less(4), more(5)), true}, {kind("pot"), less(9), false}, {and(kind("pot"), less(4)), less(9), true}, {below9(), above20(), true}, {above20(), below9(), false}, {not(less(2)), not(less(1)), true}, {not(less(1)), not(less(2)), false}, {not(less(1)), more(1), false},
	} {
		a, b := knowing(state(1, v.p), known), knowing(state(2, v.q, x), k)
		a.Count, b.Count = 2, 8
		got := check(t, a, b)
		want := took
		if v.seen {
			want = all
		}
		if !got.Over || !alike(got.A.K, want) || ids(got.A.Store) != "b" {
			t.Errorf("%+v from %+v: %+v", v.p, v.q, got)
		}
		// The other way round nothing is handed over: b knows what it knew.
		if !alike(got.B.K, b.K) {
			t.Errorf("%+v from %+v: %+v", v.p, v.q, got.B)
		}
	}
}

// TestOwn asks what comes of versions of a's own that b knows, or has: up to Count, and above it.
func TestOwn(t *testing.T) { // P15.1
	for _, v := range []struct {
		q    api.Pred
		k    api.Know
		l    []api.Item
		want string
		over bool
	}{
		{less(9), api.Know{Star: api.Vec{2}}, nil, "c", true}, {less(9), api.Know{Star: api.Vec{4}}, nil, "", true}, {less(9), api.Know{Star: api.Vec{5}}, nil, "c", false}, {less(9), api.Know{Star: api.Vec{1000}}, nil, "c", false}, {less(9), api.Know{L: []api.Frag{frag(api.Vec{4}, "x")}}, nil, "c", true}, {less(9), api.Know{L: []api.Frag{frag(api.Vec{5}, "x")}}, nil, "c", false}, {less(9), api.Know{L: []api.Frag{frag(api.Vec{1}, "x"), frag(api.Vec{0, 1}, "y"), frag(api.Vec{5}, "z")}}, nil, "c", false},
		{less(9), api.Know{Star: api.Vec{0, 8, 9, 1000, 5, 6, 7, 8}}, nil, "c", true}, {star, api.Know{Star: api.Vec{5}}, nil, "c", false},
		// Where F isn't seen, what b knows isn't told.
		{less(3), api.Know{Star: api.Vec{5}}, nil, "c", true}, {none, whole(), nil, "c", true},
		{less(3), api.Know{}, []api.Item{made("d", 2, 1, 4, 2)}, "cd", true}, {less(9), api.Know{}, []api.Item{made("d", 2, 1, 4, 2)}, "cd", true}, {less(3), api.Know{}, []api.Item{made("d", 2, 1, 5, 2)}, "c", false}, {less(9), api.Know{}, []api.Item{made("d", 2, 1, 5, 2)}, "c", false}, {none, api.Know{}, []api.Item{made("b", 2, 1, 1000, 2), made("d", 2, 3, 9, 1)}, "cd", false}, {none, api.Know{}, []api.Item{made("a", 2, 6, 1000, 2), made("d", 2, 1, 1000, 2)}, "ac", false},
		{none, api.Know{}, []api.Item{made("c", 1, 1, 3, 1)}, "c", true}, {none, api.Know{}, []api.Item{made("c", 1, 1, 5, 9)}, "c", false},
		// What goes there is no version that it takes.
		{none, api.Know{}, []api.Item{made("c", 8, 1, 4, 9)}, "", true}, {none, api.Know{}, []api.Item{made("c", 8, 1, 5, 9)}, "", true}, {less(9), api.Know{}, []api.Item{made("c", 8, 1, 4, 9)}, "", true}, {less(9), api.Know{}, []api.Item{made("c", 8, 1, 5, 9)}, "", false},
	} {
		a, b := state(1, less(5), made("c", 3, 1, 3, 3)), knowing(state(2, v.q, v.l...), v.k)
		a.Count, b.Count = 4, 1000
		got := expect(t, a, b, v.over, v.want, "", ids(b.Store), ids(b.Out))
		for c := 5; c <= 1000; c += 5 {
			for _, id := range []string{"a", "b", "c", "d", "x", "z"} {
				if know.Has(got.A.K, id, api.Ver{R: 1, C: c}) {
					t.Errorf("version %d of %s is known, of 4 that were made: %+v", c, id, got.A)
				}
			}
		}
		// Of another replica, that made none, the same is asked of its own versions alone.
		a.R, a.Count = 3, 0
		check(t, a, b)
	}
}

// TestWhere asks what comes of an item by where it stands at a, and at b, by which one comes behind, Dead and not.
func TestWhere(t *testing.T) { // P15.1
	old, new := made("c", 3, 4, 2, 5), made("c", 3, 5, 1, 6)
	far := func(x api.Item) api.Item { x.Num = 7; return x }
	for _, v := range []struct{ a, b, want []api.Item }{
		{nil, []api.Item{new}, []api.Item{new}}, {nil, []api.Item{dead(new)}, []api.Item{dead(new)}}, {nil, []api.Item{far(new)}, nil}, {nil, []api.Item{dead(far(new))}, nil},
		{[]api.Item{old}, []api.Item{new}, []api.Item{new}}, {[]api.Item{new}, []api.Item{old}, []api.Item{new}}, {[]api.Item{new}, []api.Item{new}, []api.Item{new}}, {[]api.Item{old}, []api.Item{dead(new)}, []api.Item{dead(new)}}, {[]api.Item{dead(old)}, []api.Item{new}, []api.Item{new}}, {[]api.Item{dead(new)}, []api.Item{old}, []api.Item{dead(new)}},
		// It stood in Out, and comes to Store; or stays there, as what b has isn't behind it, or isn't asked for.
		{[]api.Item{far(old)}, []api.Item{new}, []api.Item{new}}, {[]api.Item{far(new)}, []api.Item{old}, []api.Item{far(new)}}, {[]api.Item{far(new)}, []api.Item{new}, []api.Item{far(new)}}, {[]api.Item{far(old)}, []api.Item{far(new)}, []api.Item{far(old)}}, {[]api.Item{dead(far(old))}, []api.Item{dead(new)}, []api.Item{dead(new)}},
		// It stood in Store, and goes, as what came behind it isn't asked for.
		{[]api.Item{old}, []api.Item{far(new)}, nil}, {[]api.Item{new}, []api.Item{far(old)}, []api.Item{new}}, {[]api.Item{dead(old)}, []api.Item{dead(far(new))}, nil}, {[]api.Item{old}, []api.Item{far(old)}, []api.Item{old}},
	} {
		for _, q := range []api.Pred{star, less(5), more(5), less(2), none} {
			a, b := state(1, less(5), v.a...), state(2, q, v.b...)
			got := check(t, a, b)
			if all := list.Both(got.A.Store, got.A.Out); !got.Over || !alike(all, v.want) || !alike(got.B, b) {
				t.Errorf("of %+v and %+v came %+v", a, b, got)
			}
			if len(v.a) == 0 && know.Has(got.A.K, "c", new.Ver) != (len(v.want) > 0 || q.Op == api.Star || contain.In(less(5), q)) {
				t.Errorf("of %+v and %+v is known %+v", a, b, got.A.K)
			}
			// By who has all each one's latest is had.
			root := check(t, state(1, star, v.a...), b)
			if !root.Over || !alike(root.A.Store, list.Both(v.a, v.b)) || len(root.B.Out) > 0 || !alike(root.B.Store, b.Store) {
				t.Errorf("of %+v and %+v came %+v", v.a, b, root)
			}
		}
	}
}

// TestKnown asks that a version that a knows isn't answered, whether a has it or not, nor is one that its filter hasn't.
func TestKnown(t *testing.T) { // P15.1
	x := made("c", 3, 5, 4, 6)
	b := state(2, less(9), x, made("d", 7, 5, 5, 6), made("e", 12, 5, 6, 6))
	for _, v := range []struct {
		k    api.Know
		want string
	}{
		{api.Know{}, "bc"}, {api.Know{Star: api.Vec{4: 4}}, "b"}, {api.Know{Star: api.Vec{4: 3}}, "bc"}, {api.Know{Star: api.Vec{9, 9, 9, 9, 0, 9, 9, 9}}, "bc"}, {api.Know{L: []api.Frag{frag(api.Vec{4: 9}, "c")}}, "b"}, {api.Know{L: []api.Frag{frag(api.Vec{4: 9}, "b", "d")}}, "bc"}, {api.Know{L: []api.Frag{frag(api.Vec{4: 3}, "c")}}, "bc"},
	} {
		a := knowing(state(1, less(5), made("b", 1, 6, 1, 1)), v.k)
		a.Count, b.Count = 9, 9
		got := expect(t, a, b, true, v.want, "", "cd", "e")
		// The second one of b's is known as F is seen in b's, the third one, too, though it stands in Out.
		for _, y := range list.Both(b.Store, b.Out) {
			if !know.Has(got.A.K, y.Id, y.Ver) {
				t.Errorf("%+v isn't known: %+v", y, got.A)
			}
		}
	}
}

// TestAgain pulls again, once it is over, with deeds at both sides between: what changed comes, and nothing else.
func TestAgain(t *testing.T) { // P15.1, P15.3
	a, b := state(1, less(5), made("a", 1, 1, 1, 1)), state(2, star, made("b", 2, 2, 1, 1), made("c", 7, 2, 2, 2))
	a.K.L, a.K.Star[0] = nil, 1
	b.K.L, b.K.Star[1] = nil, 2
	got := expect(t, a, b, true, "ab", "", "bc", "")
	got = expect(t, got.B, got.A, true, "abc", "", "ab", "")
	b, a = got.A, got.B
	b, err := local.Update(b, "c", "pot", 4, 3-4i)
	if err != nil {
		t.Fatal(err)
	}
	got = expect(t, a, b, true, "abc", "", "abc", "")
	if a, err = local.Update(got.A, "a", "pot", 6, 3-4i); err != nil {
		t.Fatal(err)
	}
	if b, err = local.Delete(got.B, "b"); err != nil {
		t.Fatal(err)
	}
	got = expect(t, a, b, true, "bc", "a", "abc", "")
	if x, _ := list.Get(got.A.Store, "b"); !x.Dead {
		t.Errorf("%+v", got.A)
	}
	got = expect(t, got.B, got.A, true, "abc", "", "bc", "")
	if x, _ := list.Get(got.A.Store, "a"); x.Num != 6 || x.Ver != (api.Ver{R: 1, C: 2}) {
		t.Errorf("%+v", got.A)
	}
	// Who has all told of all; what it was told of itself it knows by the item.
	last := expect(t, got.B, got.A, true, "bc", "", "abc", "")
	if !alike(last.A.K, api.Know{Star: api.Vec{2, 4}}) || !alike(last.B.K, api.Know{Star: api.Vec{0, 4}, L: []api.Frag{frag(api.Vec{2}, "a")}}) {
		t.Errorf("%+v", last)
	}
}

// TestShared asks for new memory where lists that are handed in share some.
func TestShared(t *testing.T) { // P15.2
	for i := range 6 {
		texts := []string{"b", "d", "g", "n"}
		k := api.Know{L: []api.Frag{{Ids: texts[:2], Vec: api.Vec{0, 6, 2}}, {Ids: texts[2:], Vec: api.Vec{4, 7}}}}
		items := []api.Item{made("b", 3, 1, 3, 6), made("d", 30, 2, 5, 3), made("g", 4, 1, 4, 4), made("n", 3, 2, 6, 3)}
		kids := []api.Pred{less(9), less(9), star}
		a := api.State{R: 3, F: or(kids[:2]...), Store: items[:1], K: k, Count: 9, Clock: 9}
		b := api.State{R: 5, F: and(kids[1:]...), Store: items[2:], Out: items[1:2], K: k, Count: 9, Clock: 9}
		switch i {
		case 1:
			b.R = 3
		case 2:
			a.F, a.Store = star, nil
		case 3:
			a.R = 77
		case 4:
			// What b knows of a's own isn't taken.
			a.R, a.Count = 2, 1
		case 5:
			b = a
			b.R = 4
		}
		want := copyOf(byWords(a, b))
		got := from(a, b)
		if !alike(got, want) || got.Over != (i == 0 || i == 2 || i == 5) {
			t.Fatalf("From(%+v, %+v) = %+v, want %+v", a, b, got, want)
		}
		checkApart(t, got, a, b)
		overwrite(k)
		overwrite(texts)
		overwrite(items)
		overwrite(kids)
		overwrite(a)
		if overwrite(b); !alike(got, want) {
			t.Fatalf("%+v once what was handed in is written over, want %+v", got, want)
		}
	}
}

// byWords tells what is wanted of what may be, and of replicas that may not be: these are asked for nothing.
func byWords(a, b api.State) told {
	if a.R > 8 {
		return told{a, b, false}
	}
	return wanted(a, b)
}

// TestNext asks that what was told one behind the other stays as it was told: nothing is kept.
func TestNext(t *testing.T) { // P15.1, P15.2
	r := rand.New(rand.NewSource(5))
	var got, want []told
	for range 300 {
		a, b := anyState(r, 1+r.Intn(3)), anyState(r, 1+r.Intn(3))
		got, want = append(got, from(a, b)), append(want, copyOf(wanted(copyOf(a), copyOf(b))))
	}
	for i := range got {
		if !alike(got[i], want[i]) {
			t.Errorf("what was told as number %d is %+v now, want %+v", i, got[i], want[i])
		}
		overwrite(got[i])
	}
}

// anyFilter is a filter; most are often seen in each other.
func anyFilter(r *rand.Rand) api.Pred {
	if r.Intn(6) == 0 {
		return pick(r, filters()...)
	}
	return pick(r, less(3), less(5), less(7), below9(), above20(), star, star, none)
}

// anyState is replica rep, that may be, with items of few Ids, or of many, in any versions.
func anyState(r *rand.Rand, rep int) api.State {
	n, names := r.Intn(9), 9
	if r.Intn(3) == 0 {
		n, names = 30+r.Intn(11), 50
	}
	count := pick(r, 3, 9, 9, 1000)
	var l []api.Item
	for _, i := range r.Perm(names)[:n] {
		x := made(name(i), r.Intn(10), 1+r.Intn(8), 1+r.Intn(9), 1+r.Intn(9))
		x.At = pick(r, 0, 3-4i, 1000i)
		x.Dead = r.Intn(5) == 0
		if x.Ver.R == rep {
			x.Ver.C = min(x.Ver.C, count)
		}
		l = append(l, x)
	}
	s := state(rep, anyFilter(r), l...)
	var k api.Know
	for range r.Intn(4) {
		k.L = append(k.L, know.With(api.Know{}, name(r.Intn(names)), api.Ver{R: 1 + r.Intn(8), C: 1 + r.Intn(3)}).L...)
	}
	for i := range k.Star {
		k.Star[i] = max(0, r.Intn(12)-8)
	}
	s = knowing(s, k)
	s.Count, s.Clock, s.Epoch = count, s.Clock+r.Intn(3), r.Intn(3)
	return s
}

// TestAny pulls between any states that may be: P15.1 to P15.3.
func TestAny(t *testing.T) {
	r := rand.New(rand.NewSource(2))
	sums := map[string]int{}
	for range 2000 {
		i, k := 1+r.Intn(8), 1+r.Intn(8)
		a, b := anyState(r, i), anyState(r, k)
		got := check(t, a, b)
		switch {
		case i == k:
			sums["same"]++
		case !got.Over && beyond(a, b.K) && contain.In(a.F, b.F):
			sums["beyond"]++
		case !got.Over && len(got.A.Store)+len(got.A.Out) == api.MaxItems:
			sums["full"]++
		case !got.Over:
			sums["bad"]++
		case len(got.B.Out) < len(b.Out):
			sums["handed"]++
		case contain.In(a.F, b.F):
			sums["seen"]++
		default:
			sums["over"]++
		}
	}
	for what, least := range map[string]int{"same": 150, "beyond": 50, "full": 50, "bad": 50, "handed": 100, "seen": 250, "over": 250} {
		if sums[what] < least {
			t.Errorf("%s: %d of %v", what, sums[what], sums)
		}
	}
}

// net are replicas, and of each Id the version that comes last.
type net struct {
	s    []api.State
	last map[string]api.Item
}

// deed lets replica i make a version, of one of so many Ids, or take another filter.
func (n *net) deed(r *rand.Rand, i, ids int) {
	s, id, num, at := n.s[i], name(r.Intn(ids)), r.Intn(10), pick(r, 0, 3-4i, 1000i)
	if l := slices.Concat(s.Store, s.Out); len(l) > 0 && r.Intn(2) == 0 {
		id = pick(r, l...).Id
	}
	switch r.Intn(9) {
	case 0, 1, 2:
		s, _ = local.Create(s, id, pick(r, "", "pot", "cup"), num, at)
	case 3, 4, 5:
		s, _ = local.Update(s, id, pick(r, "", "pot", "cup"), num, at)
	case 6, 7:
		s, _ = local.Delete(s, id)
	case 8:
		if r.Intn(4) == 0 {
			s, _ = local.Filter(s, anyFilter(r))
		}
	}
	if s.Count > n.s[i].Count {
		x, _ := list.Get(list.Both(s.Store, s.Out), id)
		if y, there := n.last[id]; !there || item.Compare(x, y) > 0 {
			n.last[id] = x
		}
	}
	n.s[i] = s
}

// pull lets replica i pull from replica k.
func (n *net) pull(t *testing.T, i, k int) bool {
	t.Helper()
	got := check(t, n.s[i], n.s[k])
	n.s[i], n.s[k] = got.A, got.B
	return got.Over
}

// all lets the first one, who has all, pull from each, then each one from it.
func (n *net) all(t *testing.T) {
	t.Helper()
	for i := 1; i < len(n.s); i++ {
		n.pull(t, 0, i)
	}
	for i := 1; i < len(n.s); i++ {
		n.pull(t, i, 0)
	}
}

// ideal are those of last that f has, that aren't Dead, by rising Ids.
func (n *net) ideal(f api.Pred) []api.Item {
	var l []api.Item
	for _, x := range n.last {
		if eval.Has(f, x) && !x.Dead {
			l = list.Put(l, x)
		}
	}
	return l
}

// TestRound lets three replicas, and more, pull from each other in any order, with deeds between; once all have pulled, each one has just what its filter has.
func TestRound(t *testing.T) { // P15.1 to P15.3
	r := rand.New(rand.NewSource(1))
	for round := range 16 {
		n := &net{last: map[string]api.Item{}}
		for i := range 3 + round%4 {
			f := anyFilter(r)
			if i == 0 {
				f = star
			}
			s, err := local.New(i+1, f)
			if err != nil {
				t.Fatal(err)
			}
			n.s = append(n.s, s)
		}
		ids := pick(r, 5, 20, 40)
		for range 150 {
			i := r.Intn(len(n.s))
			if k := r.Intn(len(n.s)); r.Intn(2) == 0 {
				n.deed(r, i, ids)
			} else if n.pull(t, i, k) == (i == k) {
				t.Fatalf("%+v from %+v", n.s[i], n.s[k])
			}
		}
		n.all(t)
		was := slices.Clone(n.s)
		n.all(t)
		for i, s := range n.s {
			if have := local.Read(s); !alike(have, n.ideal(s.F)) || len(s.Out) > 0 || !know.Same(know.Join(s.K, n.s[0].K), s.K) || !alike(s.Store, was[i].Store) {
				t.Fatalf("replica %d, of %+v, has %+v, want %+v; %+v", s.R, s.F, have, n.ideal(s.F), s)
			}
		}
	}
}

// changes are ways in which a state may become one that may not be.
func changes(r *rand.Rand) []func(s *api.State) {
	one := func(s *api.State) *api.Item {
		l := pick(r, &s.Store, &s.Out)
		*l = append(*l, made(name(r.Intn(600)), r.Intn(9), 1+r.Intn(8), 1+r.Intn(50), 1+r.Intn(60)))
		return &(*l)[r.Intn(len(*l))]
	}
	id := func() string { return pick(r, "", "A", "`", "a b", "a\x00", "ä", "\xff", "abcdefghi", "a", "z", "aa") }
	places := []complex128{1001, 0.5i, complex(math.NaN(), 0), complex(0, math.Inf(-1)), complex(math.Copysign(0, -1), 0)}
	return []func(s *api.State){
		func(s *api.State) { s.R = pick(r, numbers()...) }, func(s *api.State) { s.Epoch = pick(r, numbers()...) }, func(s *api.State) { s.Clock, s.Count = pick(r, numbers()...), pick(r, numbers()...) },
		func(s *api.State) { s.F = pick(r, slices.Concat(filters(), oddFilters())...) }, func(s *api.State) { s.K = pick(r, slices.Concat(knowns(), oddKnowns())...) }, func(s *api.State) { *s = api.State{} },
		func(s *api.State) { s.Store, s.Out = s.Out, s.Store }, func(s *api.State) { slices.Reverse(s.Out) }, func(s *api.State) { slices.Reverse(s.Store) }, func(s *api.State) { s.Out = slices.Concat(s.Out, s.Store, s.Out) }, func(s *api.State) { s.Store = slices.Concat(s.Store, s.Out) },
		func(s *api.State) { one(s).Id = id() }, func(s *api.State) { one(s).Kind = id() }, func(s *api.State) { one(s).Num = pick(r, numbers()...) }, func(s *api.State) { one(s).Stamp = pick(r, numbers()...) },
		func(s *api.State) { one(s).Ver = api.Ver{R: pick(r, numbers()...), C: pick(r, numbers()...)} }, func(s *api.State) { one(s).At = pick(r, places...) }, func(s *api.State) { one(s).Dead = true }, func(s *api.State) { *one(s) = api.Item{} },
	}
}

// TestAnything hands over states that may not be: of these nothing is said, but that no call panics, and what is told is new memory; of one R both are told as they are, and b, where it isn't over: P1, P15.2, R2, R4.
func TestAnything(t *testing.T) {
	r := rand.New(rand.NewSource(3))
	sums := map[string]int{}
	for range 3000 {
		wasA, wasB := pick(r, anyState(r, 1+r.Intn(8)), base()), pick(r, anyState(r, 1+r.Intn(8)), other())
		for range r.Intn(4) {
			pick(r, changes(r)...)(pick(r, &wasA, &wasB))
		}
		if local.May(wasA) && local.May(wasB) {
			sums["may"]++
		}
		a, b := copyOf(wasA), copyOf(wasB)
		got := from(a, b)
		want := copyOf(got)
		switch {
		case wasA.R == wasB.R:
			if sums["same"]++; !alike(got, told{wasA, wasB, false}) {
				t.Fatalf("of %+v and %+v, of one R, came %+v", wasA, wasB, got)
			}
		case !got.Over:
			if sums["not"]++; !alike(got.B, wasB) {
				t.Fatalf("it isn't over, and %+v became %+v", wasB, got.B)
			}
		default:
			sums["over"]++
		}
		checkApart(t, got, a, b)
		if again := from(a, b); !alike(again, want) {
			t.Fatalf("of %+v and %+v came %+v, and the next time %+v", wasA, wasB, want, again)
		}
		overwrite(got)
		if !untouched(a, wasA) || !untouched(b, wasB) {
			t.Fatalf("%+v, %+v were changed: %+v, %+v", wasA, wasB, a, b)
		}
	}
	for what, least := range map[string]int{"may": 500, "same": 250, "not": 500, "over": 500} {
		if sums[what] < least {
			t.Errorf("%s: %d of %v", what, sums[what], sums)
		}
	}
}

// TestLong hands over states of very many items, pieces and Ids, and very large filters: P1.
func TestLong(t *testing.T) {
	deep, bush := star, star
	for range 1<<16 - 1 {
		deep = not(deep)
	}
	for range 17 {
		bush = and(bush, bush)
	}
	long := state(5, less(5))
	long.K.Star[2] = 1
	var ids []string
	for i := range 4000 {
		id := name(i/26) + name(i % 26)[1:]
		long.Out = append(long.Out, made(id, i%10, 1+i%8, 1+i%1000, i))
		if i < 600 {
			long.K.L = append(long.K.L, frag(api.Vec{0, 3 + i}, id, id+"b"))
		} else {
			ids = append(ids, id)
		}
	}
	long.K.L = append(long.K.L, frag(whole().Star, ids...))
	root := state(3, star)
	root.Count = 1000
	// There are more batches than one may tell of.
	if got := from(root, long); got.Over || len(got.A.Store) != api.MaxItems || len(got.B.Out) != 4000 {
		t.Errorf("%v, %d items, %d", got.Over, len(got.A.Store), len(got.B.Out))
	}
	short := state(1, less(5), many(9, 300, 3, 2)...)
	long.Count, long.F = 1000, star
	if got := from(long, short); got.Over || len(got.A.Store) > 0 || len(got.A.Out) != 4000 {
		t.Errorf("%v, %d items", got.Over, len(got.A.Store))
	}
	roomy := long
	roomy.Out = long.Out[:20]
	if got := from(roomy, short); !got.Over || len(got.A.Store) != 9 || len(got.A.Out) != 20 || len(got.A.K.L) < 600 {
		t.Errorf("%v, %d items, %d pieces", got.Over, len(got.A.Store), len(got.A.K.L))
	}
	for _, f := range []api.Pred{deep, bush, or(slices.Repeat([]api.Pred{star}, 1<<17)...)} {
		// What may not be isn't answered; asked itself, it answers what it has.
		long.F, short.F = f, less(5)
		if got := from(long, short); got.Over || len(got.A.Out) != 4000 {
			t.Errorf("%v, %d items", got.Over, len(got.A.Out))
		}
		short.F = f
		if got := from(root, short); !got.Over || len(got.A.Store) != 9 || len(got.B.Store) != 9 {
			t.Errorf("%v, %d items", got.Over, len(got.A.Store))
		}
		if got := from(short, short); got.Over || len(got.A.Store) != 9 || len(got.B.Store) != 9 {
			t.Errorf("%v, %d items", got.Over, len(got.A.Store))
		}
	}
}
