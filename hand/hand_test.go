package hand_test

import (
	"math"
	"math/rand"
	"reflect"
	"slices"
	"testing"

	"gallipot/api"
	"gallipot/ask"
	"gallipot/hand"
	"gallipot/item"
	"gallipot/know"
	"gallipot/list"
	"gallipot/local"
	"gallipot/serve"
	"gallipot/take"
)

var (
	star = api.Pred{Op: api.Star}
	none = api.Pred{Op: api.None}
)

func and(kids ...api.Pred) api.Pred { return api.Pred{Op: api.And, Kids: kids} }
func or(kids ...api.Pred) api.Pred  { return api.Pred{Op: api.Or, Kids: kids} }
func not(kids ...api.Pred) api.Pred { return api.Pred{Op: api.Not, Kids: kids} }
func less(n int) api.Pred           { return api.Pred{Op: api.Less, N: n} }
func more(n int) api.Pred           { return api.Pred{Op: api.More, N: n} }
func kind(s string) api.Pred        { return api.Pred{Op: api.Kind, Text: s} }

// below9 has what Less 9 has, and has Kids of Kids, so that much of it lies in memory of its own.
func below9() api.Pred { return or(less(9), and(kind("pot"), none), not(star)) }

// made is the item of that Id and number, in the version of that replica and count.
func made(id string, num, r, c, stamp int) api.Item {
	return api.Item{Id: id, Ver: api.Ver{R: r, C: c}, Stamp: stamp, Kind: "pot", Num: num, At: 3 - 4i}
}

// dead is x, but Dead.
func dead(x api.Item) api.Item {
	x.Dead = true
	return x
}

// frag is a piece of those counts and Ids.
func frag(v api.Vec, ids ...string) api.Frag { return api.Frag{Ids: ids, Vec: v} }

// base is a state that may be: a, c and e in Store, b, d, g, k and n in Out, c and d Dead, e, b and k of its own; it knows versions of f and h, too.
func base() api.State {
	return api.State{
		R: 3, F: below9(),
		Store: []api.Item{made("a", 3, 2, 5, 6), dead(made("c", 4, 1, 2, 4)), made("e", 8, 3, 1, 3)},
		Out:   []api.Item{made("b", 9, 3, 2, 2), dead(made("d", 12, 2, 7, 9)), made("g", 9, 1, 4, 5), made("k", 30, 3, 4, 8), made("n", 9, 8, 1000, 7)},
		K: api.Know{Star: api.Vec{1, 0, 1}, L: []api.Frag{
			frag(api.Vec{0, 5}, "a"), frag(api.Vec{0, 0, 2}, "b"), frag(api.Vec{2}, "c"), frag(api.Vec{0, 7}, "d", "f", "h"), frag(api.Vec{4}, "g"), frag(api.Vec{0, 0, 4}, "k"), frag(api.Vec{7: 1000}, "n"),
		}},
		Count: 4, Clock: 9, Epoch: 4,
	}
}

// ack is one of replica 5, to base, who has all, or hasn't.
func ack(all bool, k api.Know) api.Msg {
	return api.Msg{Kind: api.Ack, From: 5, To: 3, K: k, Star: all}
}

// whole knows all versions.
func whole() api.Know {
	return api.Know{Star: api.Vec{1000, 1000, 1000, 1000, 1000, 1000, 1000, 1000}}
}

// name is an Id, of each i below 676 another one; they rise.
func name(i int) string { return string([]byte{byte('a' + i/26), byte('a' + i%26)}) }

// filled is a state with so many items in Store, and so many in Out; it may be, if there are at most 40 of them.
func filled(store, out int) api.State {
	s := api.State{R: 3, F: less(5), Count: 4, Epoch: 4}
	for i := range store + out {
		x := made(name(i), i%5, 4, i+1, i+1)
		x.Dead = i%5 == 0
		// Some of Out stand ahead of those of Store, and some behind.
		if i >= out/2 && i < out/2+store {
			s.Store = append(s.Store, x)
		} else {
			x.Num = 5
			s.Out = append(s.Out, x)
		}
	}
	s.Clock, s.K.Star[3] = store+out, store+out
	return s
}

// filters may be; Star is the first one alone.
func filters() []api.Pred {
	return []api.Pred{
		star, none, kind(""), kind("pot"), {Op: api.Prefix, Text: "a"}, {Op: api.Prefix}, less(5), more(5), more(-1000000), {Op: api.Near, At: 3 - 4i, N: 0}, {Op: api.Near, At: -1000i, N: 8000000},
		and(), or(), and(star), or(star), or(less(5), kind("cup")), or(less(5), more(5)), not(less(5)), not(none), not(not(star)), below9(), or(slices.Repeat([]api.Pred{kind("pot")}, 29)...), not(not(not(not(not(star))))), or(and(less(5), or(star)), and(not(below9()))),
	}
}

// oddFilters may not be.
func oddFilters() []api.Pred {
	return []api.Pred{
		{}, {Op: -1}, {Op: 11}, {Op: math.MaxInt, Text: "A", N: math.MinInt, At: 9, Kids: []api.Pred{star}}, not(), not(star, star), not(not()), kind("A"), less(1000001), and(api.Pred{}, or(api.Pred{Op: 99})),
		{Op: api.Near, At: complex(math.NaN(), math.Inf(-1)), N: -1}, {Op: api.Near, At: 1001}, or(slices.Repeat([]api.Pred{star}, 30)...), not(not(not(not(not(not(star)))))), and(below9(), not(api.Pred{Op: 11})),
	}
}

// knowns may be.
func knowns() []api.Know {
	return []api.Know{
		{}, whole(), {Star: api.Vec{1, 2, 3, 4, 5, 6, 7, 8}}, {Star: api.Vec{1000, 7: 1000}}, {L: []api.Frag{frag(api.Vec{7: 1}, "a")}}, {L: []api.Frag{frag(api.Vec{1, 2}, "a", "b", "c", "zzzzzzzz")}}, {L: []api.Frag{frag(api.Vec{1000}, "a")}},
		{Star: api.Vec{0, 2}, L: []api.Frag{frag(api.Vec{1}, "a", "d"), frag(api.Vec{0, 3}, "b", "e", "g"), frag(api.Vec{4, 5, 6}, "c")}}, base().K,
	}
}

// oddKnowns may not be: each for one reason, but for the last one.
func oddKnowns() []api.Know {
	l := []api.Know{
		{L: []api.Frag{{}}}, {L: []api.Frag{frag(api.Vec{1})}}, {L: []api.Frag{frag(api.Vec{1}, "a"), frag(api.Vec{2})}}, {L: []api.Frag{{Ids: []string{}, Vec: api.Vec{1}}}}, {L: []api.Frag{frag(api.Vec{}, "a")}},
		{L: []api.Frag{frag(api.Vec{1}, "b", "a")}}, {L: []api.Frag{frag(api.Vec{1}, "a", "a")}}, {L: []api.Frag{frag(api.Vec{2}, "b"), frag(api.Vec{1}, "a")}}, {L: []api.Frag{frag(api.Vec{2}, "a"), frag(api.Vec{2}, "b")}}, {L: []api.Frag{frag(api.Vec{2}, "a"), frag(api.Vec{2}, "a")}}, {L: []api.Frag{frag(api.Vec{2}, "a"), frag(api.Vec{3}, "a", "b")}}, {L: []api.Frag{frag(api.Vec{1}, "a", "d"), frag(api.Vec{2}, "c"), frag(api.Vec{3}, "b")}},
		{Star: api.Vec{3}, L: []api.Frag{frag(api.Vec{3}, "a")}}, {Star: api.Vec{3}, L: []api.Frag{frag(api.Vec{2, 4}, "a")}}, {L: []api.Frag{frag(api.Vec{1, -1}, "a")}}, {L: []api.Frag{frag(api.Vec{math.MaxInt, math.MinInt}, "a", "\xff\x00")}},
	}
	for _, id := range []string{"", "A", "Z", "`", "{", "a b", "aB", "a1", "a\x00", "ä", "\xff", "abcdefghi", "abcdefgh\x00"} {
		l = append(l, api.Know{L: []api.Frag{frag(api.Vec{1}, id)}})
	}
	for i := range 8 {
		for _, n := range []int{math.MinInt, -1, 1001, math.MaxInt} {
			v := api.Vec{}
			v[i] = n
			l = append(l, api.Know{Star: v}, api.Know{L: []api.Frag{frag(v, "a")}})
		}
	}
	return l
}

// numbers are of any replica, count, or session, or of none.
func numbers() []int {
	return []int{math.MinInt, math.MinInt + 1, -1 << 32, -3, -1, 0, 1, 2, 3, 4, 5, 6, 7, 8, 9, 40, 41, 1000, 1001, 999999, 1000000, 1000001, 1 << 32, math.MaxInt - 1, math.MaxInt}
}

// told is all that Take told.
type told struct {
	S   api.State
	Err api.Code
}

// took tells what Take tells.
func took(t *testing.T, s api.State, m api.Msg) told {
	t.Helper()
	s, err := hand.Take(s, m)
	c, is := err.(api.Code)
	if err != nil && (!is || c == 0) {
		t.Fatalf("the error %#v", err)
	}
	return told{s, c}
}

// knows tells whether k knows x's version, count by count; both may be.
func knows(k api.Know, x api.Item) bool {
	if x.Ver.C <= k.Star[x.Ver.R-1] {
		return true
	}
	for _, f := range k.L {
		for _, id := range f.Ids {
			if id == x.Id && x.Ver.C <= f.Vec[x.Ver.R-1] {
				return true
			}
		}
	}
	return false
}

// wanted tells what Take is to tell, sentence by sentence; s may be.
func wanted(s api.State, m api.Msg) told {
	if m.Kind != 4 || m.To != s.R || m.From < 1 || m.From > 8 || m.From == s.R || !know.May(m.K) {
		return told{s, api.ErrArg}
	}
	if !m.Star {
		return told{s, 0}
	}
	var left []api.Item
	for _, x := range s.Out {
		if !knows(m.K, x) {
			left = append(left, x)
		}
	}
	s.Out = left
	return told{s, 0}
}

// wantedAck tells what Ack is to tell, sentence by sentence.
func wantedAck(s api.State, with int) api.Msg {
	var m api.Msg
	m.Kind, m.From, m.To, m.K, m.Star = 4, s.R, with, s.K, s.F.Op == 1
	return m
}

// roomy is v in memory of its own, with room behind all its lists, in which something stands.
func roomy(v reflect.Value) reflect.Value {
	w := reflect.New(v.Type()).Elem()
	switch v.Kind() {
	case reflect.Struct:
		for i := range v.NumField() {
			w.Field(i).Set(roomy(v.Field(i)))
		}
	case reflect.Slice:
		w.Set(reflect.MakeSlice(v.Type(), v.Len()+3, v.Len()+3))
		for i := range w.Len() {
			if i < v.Len() {
				w.Index(i).Set(roomy(v.Index(i)))
			} else {
				scribble(w.Index(i))
			}
		}
		w.SetLen(v.Len())
	default:
		w.Set(v)
	}
	return w
}

// copyOf is v in memory of its own, with room behind all its lists.
func copyOf[T any](v T) T { return roomy(reflect.ValueOf(v)).Interface().(T) }

// scribble writes over all of v, what stands behind its lists, too.
func scribble(v reflect.Value) {
	switch v.Kind() {
	case reflect.Struct:
		for i := range v.NumField() {
			scribble(v.Field(i))
		}
	case reflect.Slice:
		for i := range v.Cap() {
			scribble(v.Slice(0, v.Cap()).Index(i))
		}
	case reflect.Array:
		for i := range v.Len() {
			scribble(v.Index(i))
		}
	case reflect.Int:
		v.SetInt(99)
	case reflect.String:
		v.SetString("over")
	case reflect.Complex128:
		v.SetComplex(99)
	case reflect.Bool:
		v.SetBool(true)
	}
}

// overwrite writes over all that v has.
func overwrite[T any](v T) { scribble(reflect.ValueOf(&v).Elem()) }

// places puts where each element of each list of v stands, behind their lengths, too, behind l.
func places(l []uintptr, v reflect.Value) []uintptr {
	switch v.Kind() {
	case reflect.Struct:
		for i := range v.NumField() {
			l = places(l, v.Field(i))
		}
	case reflect.Slice:
		v = v.Slice(0, v.Cap())
		for i := range v.Len() {
			l = places(append(l, v.Index(i).Addr().Pointer()), v.Index(i))
		}
	}
	return l
}

// alikeValues tells whether both are written alike, with what stands behind their lists, if behind asks for it: nil and empty are one, no number is like itself, and -0 isn't 0.
func alikeValues(a, b reflect.Value, behind bool) bool {
	switch a.Kind() {
	case reflect.Struct:
		for i := range a.NumField() {
			if !alikeValues(a.Field(i), b.Field(i), behind) {
				return false
			}
		}
		return true
	case reflect.Slice:
		if a.Len() != b.Len() || behind && a.Cap() != b.Cap() {
			return false
		}
		if behind {
			a, b = a.Slice(0, a.Cap()), b.Slice(0, b.Cap())
		}
		for i := range a.Len() {
			if !alikeValues(a.Index(i), b.Index(i), behind) {
				return false
			}
		}
		return true
	case reflect.Complex128:
		bits := func(c complex128) [2]uint64 { return [2]uint64{math.Float64bits(real(c)), math.Float64bits(imag(c))} }
		return bits(a.Complex()) == bits(b.Complex())
	}
	return a.Interface() == b.Interface()
}

// alike tells whether both are written alike.
func alike[T any](a, b T) bool { return alikeValues(reflect.ValueOf(a), reflect.ValueOf(b), false) }

// untouched tells whether v is what copyOf told of was, behind all its lists, too.
func untouched[T any](v, was T) bool {
	return alikeValues(reflect.ValueOf(v), reflect.ValueOf(copyOf(was)), true)
}

// checkApart asks that no two lists of got, or one of got and one of those that were handed in, share memory: P14.2, R2.
func checkApart(t *testing.T, got any, in ...any) {
	t.Helper()
	taken := map[uintptr]bool{}
	for _, v := range in {
		for _, p := range places(nil, reflect.ValueOf(v)) {
			taken[p] = true
		}
	}
	for _, p := range places(nil, reflect.ValueOf(got)) {
		if taken[p] {
			t.Fatalf("of %+v came %+v, of which two lists, or one and one that was handed in, share memory", in, got)
		}
		taken[p] = true
	}
}

// checkAckIs asks for that message, and that it is new memory: P14.1, P14.2, R2.
func checkAckIs(t *testing.T, was api.State, with int, want api.Msg) {
	t.Helper()
	s := copyOf(was)
	m := hand.Ack(s, with)
	if !alike(m, want) {
		t.Fatalf("Ack(%+v, %d) =\n%+v, want\n%+v", was, with, m, want)
	}
	if !untouched(s, was) {
		t.Fatalf("Ack(%+v, %d) changed it: %+v", was, with, s)
	}
	checkApart(t, m, s)
	want = copyOf(want)
	if overwrite(s); !alike(m, want) {
		t.Fatalf("of %+v came %+v, and %+v once it is written over", was, want, m)
	}
	s = copyOf(was)
	m = hand.Ack(s, with)
	if overwrite(m); !untouched(s, was) {
		t.Fatalf("%+v once the message that came of it is written over", s)
	}
	// Nothing is kept, so that the same is told once more.
	if m = hand.Ack(s, with); !alike(m, want) {
		t.Fatalf("Ack(%+v, %d) the next time = %+v", was, with, m)
	}
}

// checkAck asks for what the chapter's sentences say: P14.1, P14.2.
func checkAck(t *testing.T, s api.State, with int) {
	t.Helper()
	checkAckIs(t, s, with, wantedAck(s, with))
}

// checkIs asks for what is told, and that it is new memory: P14.1, P14.2, R2, R3.
func checkIs(t *testing.T, wasS api.State, wasM api.Msg, want told) {
	t.Helper()
	s, m := copyOf(wasS), copyOf(wasM)
	got := took(t, s, m)
	if !alike(got, want) {
		t.Fatalf("Take(%+v, %+v) =\n%+v, want\n%+v", wasS, wasM, got, want)
	}
	if !untouched(s, wasS) || !untouched(m, wasM) {
		t.Fatalf("Take(%+v, %+v) changed them: %+v, %+v", wasS, wasM, s, m)
	}
	checkApart(t, got, s, m)
	want = copyOf(want)
	overwrite(s)
	if overwrite(m); !alike(got, want) {
		t.Fatalf("of %+v and %+v came %+v, and %+v once they are written over", wasS, wasM, want, got)
	}
	s, m = copyOf(wasS), copyOf(wasM)
	got = took(t, s, m)
	if overwrite(got); !untouched(s, wasS) || !untouched(m, wasM) {
		t.Fatalf("%+v, %+v once what came of them is written over", s, m)
	}
	// Nothing is kept, so that the same is told once more.
	if got = took(t, s, m); !alike(got, want) {
		t.Fatalf("Take(%+v, %+v) the next time = %+v", wasS, wasM, got)
	}
}

// check asks of a state that may be for what the chapter's sentences say, that it is new memory, and for what follows: P14.1 to P14.3.
func check(t *testing.T, s api.State, m api.Msg) told {
	t.Helper()
	if !local.May(s) {
		t.Fatalf("%+v may not be", s)
	}
	want := wanted(copyOf(s), copyOf(m))
	checkIs(t, s, m, want)
	got := took(t, s, m)
	if !local.May(got.S) {
		t.Fatalf("of %+v and %+v came %+v, which may not be", s, m, got.S)
	}
	rest, was := got.S, s
	rest.Out, was.Out = nil, nil
	if !alike(rest, was) {
		t.Fatalf("of %+v and %+v came %+v: more than Out has changed", s, m, got.S)
	}
	if got.Err != 0 || !m.Star {
		if !alike(got.S, s) {
			t.Fatalf("%+v, by which nothing goes, made %+v of %+v", m, got.S, s)
		}
		return got
	}
	checkLeft(t, s, m, got.S)
	return got
}

// checkLeft asks that what is left in Out stood there, in order, and isn't known, that all else is, and that the same message changes nothing then: P14.1, P14.3.
func checkLeft(t *testing.T, s api.State, m api.Msg, then api.State) {
	t.Helper()
	for i, x := range then.Out {
		if know.Has(m.K, x.Id, x.Ver) || !slices.Contains(s.Out, x) || i > 0 && then.Out[i-1].Id >= x.Id {
			t.Fatalf("%+v is left in %+v by %+v", x, then, m)
		}
	}
	for _, x := range s.Out {
		if !slices.Contains(then.Out, x) && !know.Has(m.K, x.Id, x.Ver) {
			t.Fatalf("%+v went from %+v by %+v", x, s, m)
		}
	}
	if again := took(t, then, m); !alike(again, told{then, 0}) {
		t.Fatalf("%+v made %+v of %+v, and the second time %+v", m, then, s, again)
	}
}

// checkErr asks for an error, and that all is as it was handed in, or for none: P14.1, P14.2.
func checkErr(t *testing.T, s api.State, m api.Msg, want api.Code) {
	t.Helper()
	got := check(t, s, m)
	if got.Err != want {
		t.Errorf("Take(%+v, %+v) = %v, want %v", s, m, got.Err, want)
	}
	if want != 0 && !alike(got.S, s) {
		t.Errorf("with an error %+v became %+v", s, got.S)
	}
}

// arg is ErrArg, if odd, else no error.
func arg(odd bool) api.Code {
	if odd {
		return api.ErrArg
	}
	return 0
}

// acks are to base, and may be: with Star and without, of nothing, some, and all.
func acks() []api.Msg {
	var l []api.Msg
	for _, k := range []api.Know{{}, whole(), base().K, {Star: api.Vec{0, 0, 2}}, {L: []api.Frag{frag(api.Vec{0, 7}, "d"), frag(api.Vec{0, 0, 4}, "k")}}} {
		l = append(l, ack(true, k), ack(false, k))
	}
	return l
}

// ids are those of l, one behind the other.
func ids(l []api.Item) string {
	all := ""
	for _, x := range l {
		all += x.Id
	}
	return all
}

// TestAck writes messages out: of a state with all sorts of things, and of one with nothing.
func TestAck(t *testing.T) { // P14.1, P14.2
	k := api.Know{Star: api.Vec{1, 0, 1}, L: []api.Frag{
		{Ids: []string{"a"}, Vec: api.Vec{0, 5}}, {Ids: []string{"b"}, Vec: api.Vec{0, 0, 2}}, {Ids: []string{"c"}, Vec: api.Vec{2}}, {Ids: []string{"d", "f", "h"}, Vec: api.Vec{0, 7}}, {Ids: []string{"g"}, Vec: api.Vec{4}}, {Ids: []string{"k"}, Vec: api.Vec{0, 0, 4}}, {Ids: []string{"n"}, Vec: api.Vec{7: 1000}},
	}}
	checkAckIs(t, base(), 6, api.Msg{Kind: 4, From: 3, To: 6, K: k})
	s := base()
	s.F, s.Store, s.Out = star, list.Both(s.Store, s.Out), nil
	checkAckIs(t, s, 6, api.Msg{Kind: 4, From: 3, To: 6, K: k, Star: true})
	for r := 1; r <= 8; r++ {
		for _, f := range filters() {
			s, err := local.New(r, f)
			if err != nil {
				t.Fatal(err)
			}
			checkAckIs(t, s, r%8+1, api.Msg{Kind: 4, From: r, To: r%8 + 1, Star: f.Op == 1})
		}
	}
	checkAckIs(t, api.State{}, 0, api.Msg{Kind: 4})
}

// TestAckStar asks whether Star is told: of each Op, of filters that have all and aren't Star, and of such that may not be.
func TestAckStar(t *testing.T) { // P14.1
	for i, f := range slices.Concat(filters(), oddFilters()) {
		s := base()
		s.F = f
		checkAck(t, s, 2)
		if m := hand.Ack(s, 2); m.Star != (i == 0) || !alike(m.F, api.Pred{}) {
			t.Errorf("of %+v Ack tells %+v", f, m)
		}
	}
	for op := -1; op <= 12; op++ {
		for _, kids := range [][]api.Pred{nil, {star}, {star, star}} {
			s := base()
			s.F = api.Pred{Op: op, Kids: kids}
			if m := hand.Ack(s, 2); m.Star != (op == 1) {
				t.Errorf("of %+v Ack tells %+v", s.F, m)
			}
			checkAck(t, s, 2)
		}
	}
}

// TestAckKnown asks that what is known is told as it is written, with pieces of several Ids, where it may not be, too.
func TestAckKnown(t *testing.T) { // P14.1, P14.2
	for _, k := range slices.Concat(knowns(), oddKnowns()) {
		for _, s := range []api.State{base(), {R: 2, F: star}} {
			s.K = k
			checkAck(t, s, 7)
			if m := hand.Ack(s, 7); !alike(m.K, k) {
				t.Errorf("of %+v Ack tells %+v", k, m.K)
			}
		}
	}
}

// TestAckNumbers tries any with, the state's own replica among them, and any R, Count, Clock and Epoch.
func TestAckNumbers(t *testing.T) { // P14.1
	for _, n := range numbers() {
		for _, r := range numbers() {
			s := base()
			s.R = r
			checkAck(t, s, n)
			if m := hand.Ack(s, n); m.From != r || m.To != n {
				t.Errorf("Ack of %d with %d = %+v", r, n, m)
			}
		}
		for _, change := range []func(s *api.State){
			func(s *api.State) { s.Count = n }, func(s *api.State) { s.Clock = n }, func(s *api.State) { s.Epoch = n }, func(s *api.State) { s.Store = nil }, func(s *api.State) { s.Out = nil }, func(s *api.State) { s.Store, s.Out = s.Out, s.Store },
		} {
			s := base()
			change(&s)
			checkAckIs(t, s, 6, hand.Ack(base(), 6))
		}
	}
}

// TestKind tries messages of each kind, and of none.
func TestKind(t *testing.T) { // P14.1
	for _, was := range acks() {
		for _, n := range numbers() {
			m := was
			m.Kind = n
			checkErr(t, base(), m, arg(n != 4))
		}
	}
	for _, v := range []struct {
		kind int
		want api.Code
	}{{0, api.ErrArg}, {api.Ask, api.ErrArg}, {api.Batch, api.ErrArg}, {api.Done, api.ErrArg}, {api.Ack, 0}, {5, api.ErrArg}} {
		m := ack(true, whole())
		m.Kind = v.kind
		checkErr(t, base(), m, v.want)
	}
}

// at is base as replica r, in a state that may be.
func at(r int) api.State {
	s := base()
	s.R, s.Count = r, 1000
	return s
}

// TestReplicas tries messages from each replica to each, and from and to none.
func TestReplicas(t *testing.T) { // P14.1
	for r := 1; r <= 8; r++ {
		for _, was := range acks() {
			was.From, was.To = r%8+1, r
			for _, n := range numbers() {
				m := was
				m.To = n
				checkErr(t, at(r), m, arg(n != r))
				m = was
				m.From = n
				checkErr(t, at(r), m, arg(n < 1 || n > 8 || n == r))
			}
		}
		for _, v := range []struct {
			from, to int
			odd      bool
		}{{r%8 + 1, r, false}, {r, r, true}, {0, r, true}, {9, r, true}, {-1, r, true}, {-r, r, true}, {r%8 + 1, r - 1, true}, {r%8 + 1, r + 1, true}, {r, r%8 + 1, true}, {r%8 + 1, r%8 + 1, true}, {r%8 + 1, -r, true}} {
			m := ack(true, whole())
			m.From, m.To = v.from, v.to
			checkErr(t, at(r), m, arg(v.odd))
			// Where nothing would go, it is refused, too.
			m.Star = false
			checkErr(t, at(r), m, arg(v.odd))
			m.Star, m.K = true, api.Know{}
			checkErr(t, at(r), m, arg(v.odd))
		}
	}
}

// TestKnown tries what is known, of what may be and what may not.
func TestKnown(t *testing.T) { // P14.1
	for _, all := range []bool{true, false} {
		for _, k := range knowns() {
			checkErr(t, base(), ack(all, k), 0)
		}
		for _, k := range oddKnowns() {
			checkErr(t, base(), ack(all, k), api.ErrArg)
			checkErr(t, filled(3, 0), ack(all, k), api.ErrArg)
			// It is odd, too, where it knows all of Out.
			if k.Star[3] == 0 {
				k.Star[3] = 1000
				checkErr(t, filled(3, 3), ack(all, k), api.ErrArg)
			}
		}
		for i := range 8 {
			for n, odd := range map[int]bool{math.MinInt: true, -1: true, 0: false, 1: false, 999: false, 1000: false, 1001: true, math.MaxInt: true} {
				v := api.Vec{2, 2, 2, 2, 2, 2, 2, 2}
				v[i] = n
				checkErr(t, base(), ack(all, api.Know{Star: v}), arg(odd))
				checkErr(t, base(), ack(all, api.Know{L: []api.Frag{frag(api.Vec{1, 1}, "a"), frag(v, "b", "d")}}), arg(odd))
				// Count isn't asked: of its own, too, more may be known than it made.
				s, m := filled(2, 2), ack(all, api.Know{Star: v})
				s.R, m.From, m.To = i+1, (i+1)%8+1, i+1
				if i == 3 {
					s.Count = 40
				}
				checkErr(t, s, m, arg(odd))
			}
		}
	}
}

// TestTwoErrors tries two, three and four errors at once, and each alone.
func TestTwoErrors(t *testing.T) { // P14.1, P14.2, R1
	for _, was := range acks() {
		for i := range 16 {
			for _, k := range []api.Know{{Star: api.Vec{-1}}, {Star: api.Vec{4, 7, 4, 7: 1001}}, {L: []api.Frag{frag(api.Vec{7, 7, 7, 7, 7, 7, 7, 7}, "k", "d")}}} {
				for _, from := range []int{0, 3, 9} {
					m := was
					if i&1 > 0 {
						m.Kind = api.Done
					}
					if i&2 > 0 {
						m.To = 4
					}
					if i&4 > 0 {
						m.From = from
					}
					if i&8 > 0 {
						m.K = k
					}
					checkErr(t, base(), m, arg(i > 0))
				}
			}
		}
	}
}

// TestNotStar asks that nothing goes where Star isn't set, whatever is known.
func TestNotStar(t *testing.T) { // P14.1
	for _, s := range []api.State{base(), filled(0, 0), filled(0, 1), filled(1, 0), filled(0, 40), filled(20, 20), filled(40, 0)} {
		for _, k := range append(knowns(), s.K) {
			checkIs(t, s, ack(false, k), told{s, 0})
			check(t, s, ack(false, k))
		}
	}
}

// TestWhole writes out what comes of an Ack of one who has all.
func TestWhole(t *testing.T) { // P14.1
	k := api.Know{Star: api.Vec{0, 0, 3}, L: []api.Frag{frag(api.Vec{5, 7}, "d", "f"), frag(api.Vec{3, 9, 0, 9, 9, 9, 9, 9}, "g"), frag(api.Vec{7: 1000}, "n")}}
	want := base()
	want.Out = []api.Item{made("g", 9, 1, 4, 5), made("k", 30, 3, 4, 8)}
	checkIs(t, base(), ack(true, k), told{want, 0})
	check(t, base(), ack(true, k))
	checkIs(t, want, ack(true, k), told{want, 0})
	k.L[1].Vec[0], k.Star[2] = 4, 4
	want.Out = nil
	checkIs(t, base(), ack(true, k), told{want, 0})
	check(t, base(), ack(true, k))
	checkIs(t, want, ack(true, whole()), told{want, 0})
}

// TestStarCounts asks what goes by Star's counts: just the item's, and one less.
func TestStarCounts(t *testing.T) { // P14.1
	for _, v := range []struct {
		star api.Vec
		left string
	}{
		{api.Vec{}, "bdgkn"}, {api.Vec{0, 0, 1}, "bdgkn"}, {api.Vec{0, 0, 2}, "dgkn"}, {api.Vec{0, 0, 3}, "dgkn"}, {api.Vec{0, 0, 4}, "dgn"}, {api.Vec{0, 6}, "bdgkn"}, {api.Vec{0, 7}, "bgkn"}, {api.Vec{0, 8}, "bgkn"}, {api.Vec{3}, "bdgkn"}, {api.Vec{4}, "bdkn"}, {api.Vec{7: 999}, "bdgkn"}, {api.Vec{7: 1000}, "bdgk"},
		{api.Vec{3, 6, 1, 1000, 1000, 1000, 1000, 999}, "bdgkn"}, {api.Vec{4, 7, 4, 0, 0, 0, 0, 1000}, ""}, {api.Vec{4, 7, 2, 0, 0, 0, 0, 1000}, "k"}, {api.Vec{4, 7, 4, 0, 0, 0, 0, 999}, "n"}, {api.Vec{4, 7, 1, 0, 0, 0, 0, 1000}, "bk"}, {whole().Star, ""}, {api.Vec{1000, 1000, 0, 1000, 1000, 1000, 1000, 1000}, "bk"}, {api.Vec{7, 4, 0, 4, 0, 0, 4, 4}, "bdkn"},
	} {
		got := check(t, base(), ack(true, api.Know{Star: v.star}))
		if ids(got.S.Out) != v.left || got.Err != 0 {
			t.Errorf("by %v %+v is left, want %s", v.star, got.S.Out, v.left)
		}
	}
}

// TestPieces asks what goes by pieces: those of the item's Id alone, by their counts, wherever they stand.
func TestPieces(t *testing.T) { // P14.1
	for _, v := range []struct {
		l    []api.Frag
		left string
	}{
		{[]api.Frag{frag(api.Vec{0, 7}, "d")}, "bgkn"}, {[]api.Frag{frag(api.Vec{0, 6}, "d")}, "bdgkn"}, {[]api.Frag{frag(api.Vec{0, 8}, "d")}, "bgkn"}, {[]api.Frag{frag(api.Vec{9, 6, 9, 9, 9, 9, 9, 9}, "d")}, "bdgkn"}, {[]api.Frag{frag(api.Vec{0, 7}, "dd")}, "bdgkn"}, {[]api.Frag{frag(api.Vec{0, 7}, "a", "c", "e", "z")}, "bdgkn"},
		{[]api.Frag{frag(api.Vec{0, 7}, "a", "d")}, "bgkn"}, {[]api.Frag{frag(api.Vec{0, 7}, "d", "e")}, "bgkn"}, {[]api.Frag{frag(api.Vec{0, 7}, "a", "d", "e")}, "bgkn"}, {[]api.Frag{frag(api.Vec{0, 7}, "b", "d", "g", "k", "n")}, "bgkn"}, {[]api.Frag{frag(api.Vec{4, 7, 4, 0, 0, 0, 0, 1000}, "b", "d", "g", "k", "n")}, ""}, {[]api.Frag{frag(api.Vec{4, 7, 3, 0, 0, 0, 0, 999}, "b", "d", "g", "k", "n")}, "kn"}, {[]api.Frag{frag(api.Vec{3, 7, 3, 0, 0, 0, 0, 999}, "b", "d", "g", "k", "n")}, "gkn"},
		{[]api.Frag{frag(api.Vec{1}, "a"), frag(api.Vec{2}, "c"), frag(api.Vec{0, 7}, "d")}, "bgkn"}, {[]api.Frag{frag(api.Vec{1}, "a"), frag(api.Vec{2}, "c"), frag(api.Vec{4}, "e", "g")}, "bdkn"}, {[]api.Frag{frag(api.Vec{1000, 1000}, "a"), frag(api.Vec{0, 6}, "d"), frag(api.Vec{1000}, "e")}, "bdgkn"}, {[]api.Frag{frag(api.Vec{0, 0, 2}, "b"), frag(api.Vec{7: 1000}, "n")}, "dgk"}, {[]api.Frag{frag(api.Vec{0, 0, 2}, "b", "k"), frag(api.Vec{0, 7}, "g"), frag(api.Vec{7: 1000}, "m")}, "dgkn"},
	} {
		k := api.Know{L: v.l}
		got := check(t, base(), ack(true, k))
		if ids(got.S.Out) != v.left || got.Err != 0 {
			t.Errorf("by %+v %+v is left, want %s", v.l, got.S.Out, v.left)
		}
		// By Star beside them b goes, too, where they are plain yet.
		k.Star[2] = 2
		if left := slices.DeleteFunc([]byte(v.left), func(c byte) bool { return c == 'b' }); know.May(k) {
			if got = check(t, base(), ack(true, k)); ids(got.S.Out) != string(left) {
				t.Errorf("by %+v %+v is left, want %s", k, got.S.Out, left)
			}
		}
	}
}

// TestSome asks which are left of an Out of 0 to 5 items, of which each sort of some is known: by a piece each, by one of them all, and by Star.
func TestSome(t *testing.T) { // P14.1, P14.3
	all := base().Out
	for out := range 1 << len(all) {
		s := base()
		s.Out = some(all, out)
		for known := range 1 << len(all) {
			l := some(all, known)
			var k api.Know
			var joined api.Frag
			for _, x := range l {
				k = know.With(k, x.Id, x.Ver)
				joined.Ids = append(joined.Ids, x.Id)
				joined.Vec[x.Ver.R-1] = max(joined.Vec[x.Ver.R-1], x.Ver.C)
			}
			want := ids(some(all, out&^known))
			got := check(t, s, ack(true, k))
			if ids(got.S.Out) != want || ids(got.S.Store) != "ace" {
				t.Errorf("of %s, of which %s are known, %+v are left", ids(s.Out), ids(l), got.S)
			}
			if k = know.Plain(api.Know{L: []api.Frag{joined}}); ids(check(t, s, ack(true, k)).S.Out) != want {
				t.Errorf("of %s, of which %s are known by one piece, others than %s are left", ids(s.Out), ids(l), want)
			}
			// What Star knows of k it knows of b, which is the same replica's, too.
			k = api.Know{Star: joined.Vec}
			if known>>3&1 > 0 {
				want = ids(some(all, out&^(known|1)))
			}
			if got = check(t, s, ack(true, k)); ids(got.S.Out) != want {
				t.Errorf("of %s, by %+v, %+v are left, want %s", ids(s.Out), k, got.S.Out, want)
			}
			check(t, s, ack(false, k))
		}
	}
}

// some are those of l whose bits are set.
func some(l []api.Item, bits int) []api.Item {
	var told []api.Item
	for i, x := range l {
		if bits>>i&1 > 0 {
			told = append(told, x)
		}
	}
	return told
}

// TestMany asks which are left of Outs of up to 40 items, beside all sorts of Stores.
func TestMany(t *testing.T) { // P14.1, P14.3
	for _, n := range [][2]int{{0, 1}, {1, 1}, {39, 1}, {0, 2}, {5, 5}, {0, 39}, {1, 39}, {0, 40}, {20, 20}, {40, 0}} {
		s := filled(n[0], n[1])
		for c := range 42 {
			got := check(t, s, ack(true, api.Know{Star: api.Vec{0, 0, 0, c}}))
			want := slices.DeleteFunc(slices.Clone(s.Out), func(x api.Item) bool { return x.Ver.C <= c })
			if !alike(got.S.Out, want) || !alike(got.S.Store, s.Store) {
				t.Errorf("of %d in Store, %d in Out, by %d: %+v", n[0], n[1], c, got.S)
			}
		}
		for step := 1; step < 8; step++ {
			var k api.Know
			var want []api.Item
			for i, x := range s.Out {
				if i%step == step/2 {
					k.L = append(k.L, know.With(api.Know{}, x.Id, x.Ver).L...)
				} else {
					want = append(want, x)
				}
			}
			if got := check(t, s, ack(true, know.Plain(k))); !alike(got.S.Out, want) {
				t.Errorf("of %d in Store, %d in Out, each of %d: %+v", n[0], n[1], step, got.S)
			}
		}
	}
}

// TestVersion asks for the item's own version: of each replica, at each count's edges, Dead or not, of the replica's own, too.
func TestVersion(t *testing.T) { // P14.1
	for r := 1; r <= 8; r++ {
		for _, c := range []int{1, 2, 500, 999, 1000} {
			for i := range 8 {
				x := made("pot", 9, r, c, 7)
				x.Dead = i%2 == 0
				s := api.State{R: i + 1, F: less(5), Out: []api.Item{x}, Count: 1000, Clock: 7}
				s.K = know.With(api.Know{}, x.Id, x.Ver)
				for _, n := range []int{0, c - 1, c, c + 1, 1000} {
					v, other := api.Vec{}, whole().Star
					v[r-1], other[r-1] = min(n, 1000), min(n, 1000)
					for _, k := range []api.Know{{Star: v}, {Star: other}, {L: []api.Frag{frag(v, "pot")}}, {L: []api.Frag{frag(other, "jar", "pot", "q")}}} {
						m := ack(true, know.Plain(k))
						m.From, m.To = s.R%8+1, s.R
						if got := check(t, s, m); (len(got.S.Out) == 0) != (n >= c) || got.Err != 0 {
							t.Errorf("of %+v by %+v: %+v", x, k, got)
						}
					}
				}
				m := ack(true, know.Plain(api.Know{L: []api.Frag{frag(whole().Star, "jar", "po", "pots", "q")}}))
				m.From, m.To = s.R%8+1, s.R
				if got := check(t, s, m); len(got.S.Out) != 1 {
					t.Errorf("of %+v by %+v: %+v", x, m.K, got)
				}
			}
		}
	}
}

// TestOwnKnowledge asks that what the state itself knows makes nothing go, and that what is known there isn't known here then.
func TestOwnKnowledge(t *testing.T) { // P14.1, P14.3
	s := base()
	s.Count, s.K = 1000, whole()
	for _, k := range []api.Know{{}, {Star: api.Vec{3, 6, 1, 1000, 1000, 1000, 1000, 999}}, {L: []api.Frag{frag(whole().Star, "a", "c", "e", "f", "h")}}} {
		checkIs(t, s, ack(true, k), told{s, 0})
		checkIs(t, base(), ack(true, k), told{base(), 0})
	}
	for _, k := range knowns() {
		if got := check(t, base(), ack(true, k)); !alike(got.S.K, base().K) {
			t.Errorf("by %+v: %+v", k, got.S.K)
		}
	}
}

// TestStays asks that Store, F, K, Count, Clock and Epoch are as they were, where all is known, too.
func TestStays(t *testing.T) { // P14.1, P14.3
	for _, f := range filters() {
		for _, k := range append(knowns(), api.Know{L: []api.Frag{frag(whole().Star, "a", "b", "c", "d", "e", "f", "g", "h", "k", "n")}}) {
			s := api.State{R: 3, F: f, K: base().K, Count: 77, Clock: 88, Epoch: 99}
			all := list.Both(base().Store, base().Out)
			for _, x := range all {
				if hasIt(t, f, x) {
					s.Store = append(s.Store, x)
				} else {
					s.Out = append(s.Out, x)
				}
			}
			got := check(t, s, ack(true, k)).S
			if !alike(got.Store, s.Store) || !alike(got.F, f) || !alike(got.K, s.K) || got.Count != 77 || got.Clock != 88 || got.Epoch != 99 || got.R != 3 {
				t.Errorf("by %+v %+v became %+v", k, s, got)
			}
		}
	}
	s := base()
	s.Count, s.Clock, s.Epoch = 1000, 1000000, 1000000
	want := s
	want.Out = nil
	checkIs(t, s, ack(true, whole()), told{want, 0})
}

// hasIt tells whether a replica of that filter keeps x in Store.
func hasIt(t *testing.T, f api.Pred, x api.Item) bool {
	t.Helper()
	s, err := local.Filter(api.State{R: 1, Out: []api.Item{x}}, f)
	if err != nil {
		t.Fatal(err)
	}
	return len(s.Store) == 1
}

// TestBeside asks that what a message has beside what the chapter names is no matter.
func TestBeside(t *testing.T) { // P14.1
	for _, was := range acks() {
		want := check(t, base(), was)
		for _, n := range numbers() {
			for _, change := range []func(m *api.Msg){
				func(m *api.Msg) { m.Sid = n }, func(m *api.Msg) { m.Turn = n }, func(m *api.Msg) { m.N = n }, func(m *api.Msg) { m.F = api.Pred{Op: n} }, func(m *api.Msg) { m.Have = []api.Has{{Id: "A", Stamp: n}, {Id: "b"}} }, func(m *api.Msg) { m.L = slices.Repeat([]api.Entry{{Goes: true}, {}}, 30) },
			} {
				m := was
				change(&m)
				checkIs(t, base(), m, want)
			}
		}
	}
}

// TestShared asks for new memory where lists that are handed in share some.
func TestShared(t *testing.T) { // P14.2
	for i := range 4 {
		texts := []string{"b", "d", "g", "n"}
		k := api.Know{L: []api.Frag{{Ids: texts[:2], Vec: api.Vec{0, 6, 2}}, {Ids: texts[2:], Vec: api.Vec{4, 7}}}}
		items := slices.Concat(base().Store, base().Out)
		s := base()
		s.K, s.Store, s.Out = k, items[:3], items[3:]
		m := ack(i%2 == 0, k)
		if i > 1 {
			m.To = 9
		}
		want := copyOf(wanted(copyOf(s), copyOf(m)))
		got := took(t, s, m)
		wantAck, gotAck := copyOf(wantedAck(s, 2)), hand.Ack(s, 2)
		if !alike(got, want) || !alike(gotAck, wantAck) {
			t.Fatalf("Take(%+v, %+v) = %+v; Ack = %+v", s, m, got, gotAck)
		}
		checkApart(t, got, s, m, gotAck)
		overwrite(k)
		overwrite(texts)
		overwrite(items)
		if overwrite(s); !alike(got, want) || !alike(gotAck, wantAck) {
			t.Fatalf("%+v, %+v once what was handed in is written over", got, gotAck)
		}
	}
	// The memory in which Acks, and lists, of one state stand is each one's own.
	s := base()
	one, two := hand.Ack(s, 2), hand.Ack(s, 2)
	checkApart(t, two, s, one)
	overwrite(one)
	if !alike(two, wantedAck(base(), 2)) || !alike(s, base()) {
		t.Errorf("%+v, %+v", two, s)
	}
}

// TestNext asks that what was told one behind the other stays as it was told: nothing is kept.
func TestNext(t *testing.T) { // P14.1, P14.2
	r := rand.New(rand.NewSource(5))
	var got, want []told
	var sent, wantSent []api.Msg
	for range 300 {
		s := pick(r, base(), filled(9, 3), filled(0, 4))
		m := ack(r.Intn(4) > 0, pick(r, append(knowns(), oddKnowns()[r.Intn(20)])...))
		got, want = append(got, took(t, s, m)), append(want, copyOf(wanted(copyOf(s), copyOf(m))))
		sent, wantSent = append(sent, hand.Ack(s, 1)), append(wantSent, copyOf(wantedAck(s, 1)))
	}
	for i := range got {
		if !alike(got[i], want[i]) || !alike(sent[i], wantSent[i]) {
			t.Errorf("what was told as number %d is %+v, %+v now, want %+v, %+v", i, got[i], sent[i], want[i], wantSent[i])
		}
		overwrite(got[i])
		overwrite(sent[i])
	}
}

// pick is one of l.
func pick[T any](r *rand.Rand, l ...T) T { return l[r.Intn(len(l))] }

// deed lets s make a version, of one of so many Ids, or take another filter.
func deed(r *rand.Rand, s api.State, ids int) api.State {
	id, num, at := name(r.Intn(ids)), r.Intn(10), pick(r, 0, 3-4i, 1000i)
	if l := slices.Concat(s.Store, s.Out); len(l) > 0 && r.Intn(2) == 0 {
		id = pick(r, l...).Id
	}
	switch r.Intn(9) {
	case 0, 1, 2:
		s, _ = local.Create(s, id, pick(r, "", "pot", "cup"), num, at)
	case 3, 4, 5:
		s, _ = local.Update(s, id, pick(r, "", "pot", "cup"), num, at)
	case 6, 7:
		s, _ = local.Delete(s, id)
	case 8:
		if r.Intn(3) == 0 {
			s, _ = local.Filter(s, pick(r, less(3), less(5), more(5), below9(), and(), none))
		}
	}
	return s
}

// pulled lets a take all that b answers, and tells whether it is over.
func pulled(t *testing.T, a, b api.State, turn int) (api.State, bool) {
	t.Helper()
	x, m := ask.Open(a, b.R, turn)
	for _, m := range serve.Answer(b, m, turn) {
		var err error
		if a, x, err = take.Msg(a, x, m); err != nil {
			t.Fatal(err)
		}
	}
	return a, x.Over
}

// TestReplicasMeet lets replicas pull from each other, with deeds between, and Acks that come late, twice, or never: what goes from Out has gone to one who has all, or what came behind it has.
func TestReplicasMeet(t *testing.T) { // P14.1 to P14.3
	r := rand.New(rand.NewSource(1))
	gone, stayed, late := 0, 0, 0
	for round := range 20 {
		var l []api.State
		for i, f := range []api.Pred{star, less(5), more(5), and(), star} {
			s, err := local.New(i+1, f)
			if err != nil {
				t.Fatal(err)
			}
			// In some rounds two have all.
			if i < 4 || round%2 > 0 {
				l = append(l, s)
			}
		}
		var sent []api.Msg
		for turn := range 400 {
			i := r.Intn(len(l))
			k := (i + 1 + r.Intn(len(l)-1)) % len(l)
			switch r.Intn(4) {
			case 0, 1:
				l[i] = deed(r, l[i], 30)
			case 2:
				var over bool
				if l[i], over = pulled(t, l[i], l[k], turn+1); over {
					checkAck(t, l[i], k+1)
					sent = append(sent, hand.Ack(l[i], k+1))
				}
			case 3:
				if len(sent) == 0 {
					continue
				}
				m := pick(r, sent...)
				if !know.Same(m.K, l[m.From-1].K) {
					late++
				}
				got := check(t, l[m.To-1], m)
				checkGone(t, l[m.To-1], got, l[m.From-1], m)
				gone, stayed = gone+len(l[m.To-1].Out)-len(got.S.Out), stayed+len(got.S.Out)
				l[m.To-1] = got.S
			}
		}
	}
	if gone < 200 || stayed < 1000 || late < 500 {
		t.Errorf("%d went, %d stayed, %d Acks came late", gone, stayed, late)
	}
}

// checkGone asks that what went from s stands at from, in that version, or in one that came behind it, and that nothing went where from hasn't all.
func checkGone(t *testing.T, s api.State, got told, from api.State, m api.Msg) {
	t.Helper()
	if m.Star != (from.F.Op == api.Star) || got.Err != 0 || !m.Star && !alike(got.S, s) {
		t.Fatalf("of %+v by %+v came %+v", s, m, got)
	}
	for _, x := range s.Out {
		y, there := list.Get(from.Store, x.Id)
		if _, left := list.Get(got.S.Out, x.Id); !left && (!there || item.Compare(x, y) > 0) {
			t.Fatalf("%+v went, which %+v hasn't", x, from)
		}
	}
}

// shaken is a message near to one that s may take: most of them such that all goes well, some not.
func shaken(r *rand.Rand, s api.State) api.Msg {
	m := ack(r.Intn(4) > 0, pick(r, append(knowns(), s.K)...))
	for range r.Intn(8) {
		if len(s.Out) > 0 {
			x := pick(r, s.Out...)
			m.K = know.With(m.K, x.Id, api.Ver{R: x.Ver.R, C: min(max(1, x.Ver.C+r.Intn(3)-1), 1000)})
		}
	}
	if r.Intn(3) == 0 {
		m.K = know.Plain(api.Know{Star: api.Vec{r.Intn(6), r.Intn(9), r.Intn(6), r.Intn(42), 7: 998 + r.Intn(3)}, L: m.K.L})
	}
	for range r.Intn(2) {
		n := pick(r, numbers()...)
		pick(r,
			func() { m.Kind = n }, func() { m.From = n }, func() { m.To = n }, func() { m.Sid = n }, func() { m.Turn = n }, func() { m.N = n }, func() { m.K = pick(r, oddKnowns()...) }, func() { m.K.Star[r.Intn(8)] = n },
			func() { m.F = pick(r, slices.Concat(filters(), oddFilters())...) }, func() { m.Have = append(m.Have, api.Has{Id: "A"}) }, func() { m.L = append(m.L, api.Entry{}) }, func() { m = api.Msg{} },
		)()
	}
	return m
}

// TestAnyMessage hands any messages to states that may be: P1, P14.1 to P14.3.
func TestAnyMessage(t *testing.T) {
	r := rand.New(rand.NewSource(2))
	sums, gone := map[api.Code]int{}, 0
	for range 6000 {
		n := r.Intn(41)
		s := pick(r, base(), filled(r.Intn(n+1), 40-n), filled(0, n), filled(n, 0))
		got := check(t, s, shaken(r, s))
		sums[got.Err]++
		if len(got.S.Out) < len(s.Out) {
			gone++
		}
	}
	if sums[0] < 2000 || sums[api.ErrArg] < 1000 || gone < 1000 {
		t.Errorf("errors: %v; of %d some went", sums, gone)
	}
}

// changes are ways in which a state may become one that may not be.
func changes(r *rand.Rand) []func(s *api.State) {
	one := func(s *api.State) *api.Item {
		s.Out = append(s.Out, made(name(r.Intn(600)), r.Intn(9), 1+r.Intn(8), 1+r.Intn(50), 1+r.Intn(60)))
		return &s.Out[r.Intn(len(s.Out))]
	}
	id := func() string { return pick(r, "", "A", "`", "a b", "a\x00", "ä", "\xff", "abcdefghi", "a", "z", "aa") }
	places := []complex128{1001, 0.5i, complex(math.NaN(), 0), complex(0, math.Inf(-1)), complex(math.Copysign(0, -1), 0)}
	return []func(s *api.State){
		func(s *api.State) { s.R = pick(r, numbers()...) }, func(s *api.State) { s.Epoch = pick(r, numbers()...) }, func(s *api.State) { s.Clock, s.Count = pick(r, numbers()...), pick(r, numbers()...) },
		func(s *api.State) { s.F = pick(r, slices.Concat(filters(), oddFilters())...) }, func(s *api.State) { s.K = pick(r, slices.Concat(knowns(), oddKnowns())...) }, func(s *api.State) { *s = api.State{} },
		func(s *api.State) { s.Store, s.Out = s.Out, s.Store }, func(s *api.State) { slices.Reverse(s.Out) }, func(s *api.State) { s.Out = slices.Concat(s.Out, s.Store, s.Out) }, func(s *api.State) { s.Store = slices.Concat(s.Store, s.Out) },
		func(s *api.State) { one(s).Id = id() }, func(s *api.State) { one(s).Kind = id() }, func(s *api.State) { one(s).Num = pick(r, numbers()...) }, func(s *api.State) { one(s).Stamp = pick(r, numbers()...) },
		func(s *api.State) { one(s).Ver = api.Ver{R: pick(r, numbers()...), C: pick(r, numbers()...)} }, func(s *api.State) { one(s).At = pick(r, places...) }, func(s *api.State) { one(s).Dead = true }, func(s *api.State) { *one(s) = api.Item{} },
	}
}

// TestAnything hands over states, replicas and messages that may not be: of these nothing is said, but that no call panics, what is handed in stays, and with an error is told as it is; an Ack is what it is of any state: P1, P14.1, P14.2, R2 to R4.
func TestAnything(t *testing.T) {
	r := rand.New(rand.NewSource(3))
	may := map[bool]int{}
	for range 6000 {
		wasS := pick(r, base(), filled(r.Intn(9), r.Intn(60)), filled(0, 3))
		wasM := shaken(r, wasS)
		for range r.Intn(4) {
			pick(r, changes(r)...)(&wasS)
		}
		if r.Intn(2) == 0 {
			wasM.To = wasS.R
		}
		may[local.May(wasS)]++
		checkAck(t, wasS, pick(r, numbers()...))
		s, m := copyOf(wasS), copyOf(wasM)
		got := took(t, s, m)
		if got.Err != 0 && !alike(got, told{wasS, got.Err}) || got.Err == 0 && !m.Star && !alike(got.S, wasS) {
			t.Fatalf("by %+v %+v became %+v", wasM, wasS, got)
		}
		checkApart(t, got, s, m)
		overwrite(got)
		if !untouched(s, wasS) || !untouched(m, wasM) {
			t.Fatalf("%+v, %+v were changed: %+v, %+v", wasS, wasM, s, m)
		}
	}
	if may[true] < 1000 || may[false] < 1000 {
		t.Errorf("of those that may be, and may not: %v", may)
	}
}

// TestLong hands over states and messages of very many items, pieces and Ids, and very large filters: P1.
func TestLong(t *testing.T) {
	deep, bush := star, star
	for range 1<<16 - 1 {
		deep = not(deep)
	}
	for range 17 {
		bush = and(bush, bush)
	}
	s, k := base(), api.Know{Star: api.Vec{5}}
	s.Out = nil
	var ids []string
	for i := range 6000 {
		id := name(i/26) + name(i % 26)[1:]
		s.Out = append(s.Out, made(id, i%10, 1+i%8, 1+i%1000, i))
		if i < 900 {
			k.L = append(k.L, frag(api.Vec{0, 3 + i}, id, id+"b"))
		} else {
			ids = append(ids, id)
		}
	}
	k.L = append(k.L, frag(whole().Star, ids...))
	for _, f := range []api.Pred{star, deep, bush, or(slices.Repeat([]api.Pred{star}, 1<<17)...)} {
		s.F = f
		if got := took(t, s, ack(true, k)); got.Err != 0 || len(got.S.Out) < 500 || len(got.S.Out) > 900 {
			t.Errorf("%v, %d items", got.Err, len(got.S.Out))
		}
		if got := took(t, s, ack(true, api.Know{L: k.L[900:]})); got.Err != 0 || len(got.S.Out) != 900 {
			t.Errorf("%v, %d items", got.Err, len(got.S.Out))
		}
		s.K = k
		if m := hand.Ack(s, 5); m.Star != (f.Op == api.Star) || len(m.K.L) != 901 || len(m.K.L[900].Ids) != 5100 {
			t.Errorf("Ack of %d pieces, Star %v", len(m.K.L), m.Star)
		}
	}
}
