package serve_test

import (
	"maps"
	"math"
	"math/rand"
	"reflect"
	"slices"
	"strings"
	"testing"

	"gallipot/api"
	"gallipot/ask"
	"gallipot/contain"
	"gallipot/eval"
	"gallipot/know"
	"gallipot/local"
	"gallipot/pred"
	"gallipot/recv"
	"gallipot/serve"
)

var (
	star = api.Pred{Op: api.Star}
	none = api.Pred{Op: api.None}
)

func and(kids ...api.Pred) api.Pred { return api.Pred{Op: api.And, Kids: kids} }
func or(kids ...api.Pred) api.Pred  { return api.Pred{Op: api.Or, Kids: kids} }
func not(kids ...api.Pred) api.Pred { return api.Pred{Op: api.Not, Kids: kids} }
func less(n int) api.Pred           { return api.Pred{Op: api.Less, N: n} }
func more(n int) api.Pred           { return api.Pred{Op: api.More, N: n} }
func kind(s string) api.Pred        { return api.Pred{Op: api.Kind, Text: s} }

// below9 has what Less 9 has, and has Kids of Kids, so that much of it lies in memory of its own; Less 5 is seen in it.
func below9() api.Pred { return or(less(9), and(kind("pot"), none), not(star)) }

// made is the item of that Id and number, in the version of that replica and count.
func made(id string, num, r, c, stamp int) api.Item {
	return api.Item{Id: id, Ver: api.Ver{R: r, C: c}, Stamp: stamp, Kind: "pot", Num: num, At: 3 - 4i}
}

// dead is x, but Dead.
func dead(x api.Item) api.Item {
	x.Dead = true
	return x
}

// has is that version of an Id, of that stamp.
func has(id string, r, c, stamp int) api.Has {
	return api.Has{Id: id, Ver: api.Ver{R: r, C: c}, Stamp: stamp}
}

// frag is a piece of those counts and Ids.
func frag(v api.Vec, ids ...string) api.Frag { return api.Frag{Ids: ids, Vec: v} }

// goes is the entry by which that version is to go, as new came behind it.
func goes(id string, r, c int, new api.Ver) api.Entry {
	return api.Entry{Item: api.Item{Id: id, Ver: api.Ver{R: r, C: c}}, Goes: true, New: new}
}

// entries are those of these items.
func entries(l ...api.Item) []api.Entry {
	var told []api.Entry
	for _, x := range l {
		told = append(told, api.Entry{Item: x})
	}
	return told
}

// base is a state that may be: a, c and e in Store, b and d in Out, c and d Dead; it knows versions of f, g and h, too.
func base() api.State {
	return api.State{
		R: 3, F: below9(),
		Store: []api.Item{made("a", 3, 2, 5, 6), dead(made("c", 4, 1, 2, 4)), made("e", 8, 3, 1, 3)},
		Out:   []api.Item{made("b", 9, 3, 2, 2), dead(made("d", 12, 2, 7, 9))},
		K: api.Know{Star: api.Vec{1, 0, 1}, L: []api.Frag{
			frag(api.Vec{0, 5}, "a"), frag(api.Vec{0, 0, 2}, "b"), frag(api.Vec{2}, "c"), frag(api.Vec{0, 7}, "d", "f", "g", "h"),
		}},
		Count: 4, Clock: 9, Epoch: 4,
	}
}

// asked is an Ask to base that may be, whose F is seen in base's, and has a and c.
func asked() api.Msg {
	return api.Msg{
		Kind: api.Ask, From: 5, To: 3, Sid: 21, F: and(less(5), or(kind("pot"), not(star))),
		K:    api.Know{Star: api.Vec{0, 3}, L: []api.Frag{frag(api.Vec{7: 2}, "a", "k", "z")}},
		Have: []api.Has{has("b", 4, 2, 1), has("f", 2, 7, 8), has("k", 8, 2, 2)},
	}
}

// empty is a replica that has, and knows, nothing.
func empty(r int, f api.Pred) api.State { return api.State{R: r, F: f} }

// name is an Id, of each i below 676 another one; they rise.
func name(i int) string { return string([]byte{byte('a' + i/26), byte('a' + i%26)}) }

// filled is a state with so many items in Store, and so many in Out, of which each fifth one is Dead, in both; it may be, if there are at most 40 of them.
func filled(store, out int) api.State {
	s := empty(5, less(5))
	for i := range store + out {
		x := made(name(i), 4, 5, i+1, i+1)
		x.Dead = i%5 == 0
		// Some of Out stand ahead of those of Store, and some behind.
		if i >= out/2 && i < out/2+store {
			s.Store = append(s.Store, x)
		} else {
			x.Num = 5
			s.Out = append(s.Out, x)
		}
	}
	s.Count, s.Clock, s.K.Star[4] = store+out, store+out, store+out
	return s
}

// haves are so many, that rise and may be.
func haves(n int) []api.Has {
	var l []api.Has
	for i := range n {
		l = append(l, has(name(i), 1+i%8, 1+i, 1+i*9))
	}
	return l
}

// filters may be.
func filters() []api.Pred {
	return []api.Pred{
		star, none, kind(""), kind("pot"), {Op: api.Prefix, Text: "a"}, {Op: api.Prefix}, less(5), more(5), less(-1000000), more(1000000), {Op: api.Near, At: 3 - 4i, N: 0}, {Op: api.Near, At: -1000i, N: 8000000},
		and(), or(), and(star), or(less(5), kind("cup")), not(less(5)), not(not(star)), below9(), or(slices.Repeat([]api.Pred{kind("pot")}, 29)...), not(not(not(not(not(star))))), or(and(less(5), or(star)), and(not(below9()))),
	}
}

// oddFilters may not be.
func oddFilters() []api.Pred {
	return []api.Pred{
		{}, {Op: -1}, {Op: 11}, {Op: math.MaxInt, Text: "A", N: math.MinInt, At: 9, Kids: []api.Pred{star}}, not(), not(star, star), not(not()), kind("A"), kind("abcdefghi"), less(1000001), less(-1000001), {Op: api.Star, Text: "a"}, {Op: api.Star, N: 1}, {Op: api.Star, Kids: []api.Pred{{}, star}}, and(api.Pred{}, or(api.Pred{Op: 99})),
		{Op: api.Near, At: complex(math.NaN(), math.Inf(-1)), N: -1}, {Op: api.Near, N: 8000001}, {Op: api.Near, At: 1001}, or(slices.Repeat([]api.Pred{kind("pot")}, 30)...), not(not(not(not(not(not(star)))))), and(below9(), not(api.Pred{Op: 11})),
	}
}

// knowns may be.
func knowns() []api.Know {
	return []api.Know{
		{}, {Star: api.Vec{1, 2, 3, 4, 5, 6, 7, 8}}, {Star: api.Vec{1000, 7: 1000}}, {L: []api.Frag{frag(api.Vec{7: 1}, "a")}}, {L: []api.Frag{frag(api.Vec{1, 2}, "a", "b", "c", "zzzzzzzz")}}, {L: []api.Frag{frag(api.Vec{1000}, "a")}},
		{Star: api.Vec{0, 2}, L: []api.Frag{frag(api.Vec{1}, "a", "d"), frag(api.Vec{0, 3}, "b", "e", "g"), frag(api.Vec{4, 5, 6}, "c")}}, base().K, asked().K,
	}
}

// oddKnowns may not be.
func oddKnowns() []api.Know {
	return []api.Know{
		{Star: api.Vec{-1}}, {Star: api.Vec{7: 1001}}, {L: []api.Frag{{}}}, {L: []api.Frag{{}, {}, {Ids: []string{}}}}, {L: []api.Frag{frag(api.Vec{1})}}, {L: []api.Frag{frag(api.Vec{1}, "b", "a")}}, {L: []api.Frag{frag(api.Vec{1}, "a", "a")}}, {L: []api.Frag{frag(api.Vec{1}, "A")}}, {L: []api.Frag{frag(api.Vec{1}, "")}}, {L: []api.Frag{frag(api.Vec{1001}, "a")}}, {L: []api.Frag{frag(api.Vec{1, -1}, "a")}},
		{Star: api.Vec{3}, L: []api.Frag{frag(api.Vec{3}, "a")}}, {L: []api.Frag{frag(api.Vec{2}, "b"), frag(api.Vec{1}, "a")}}, {L: []api.Frag{frag(api.Vec{2}, "a"), frag(api.Vec{2}, "b")}}, {L: []api.Frag{frag(api.Vec{2}, "a"), frag(api.Vec{}, "c")}}, {L: []api.Frag{frag(api.Vec{math.MaxInt, math.MinInt}, "a", "\xff\x00")}},
	}
}

// numbers are of any replica, count, or session, or of none.
func numbers() []int {
	return []int{math.MinInt, math.MinInt + 1, -1 << 32, -3, -1, 0, 1, 2, 3, 4, 5, 8, 9, 40, 41, 1000, 1001, 999999, 1000000, 1000001, 1 << 32, math.MaxInt - 1, math.MaxInt}
}

// oddTexts may not be Ids.
func oddTexts() []string {
	return []string{"", "A", "Z", "`", "{", "a b", "aB", "a1", "a\x00", "ä", "\xff", "abcdefghi", "abcdefgh\x00"}
}

// mayAsk tells whether m is an Ask, and may be, sentence by sentence.
func mayAsk(m api.Msg) bool {
	if m.Kind != 1 || m.From < 1 || m.From > 8 || m.To < 1 || m.To > 8 || m.From == m.To || m.Sid < 0 || m.Sid > 1000000 {
		return false
	}
	if !pred.May(m.F) || !know.May(m.K) || m.Turn != 0 || m.N != 0 || len(m.L) > 0 || m.Star || len(m.Have) > 40 {
		return false
	}
	id := ""
	for _, h := range m.Have {
		letters := strings.Trim(h.Id, "abcdefghijklmnopqrstuvwxyz") == ""
		if h.Id <= id || len(h.Id) > 8 || !letters || h.Ver.R < 1 || h.Ver.R > 8 || h.Ver.C < 1 || h.Ver.C > 1000 || h.Stamp < 1 || h.Stamp > 1000000 {
			return false
		}
		id = h.Id
	}
	return true
}

// behind tells whether x comes behind h.
func behind(x api.Item, h api.Has) bool {
	if x.Stamp != h.Stamp {
		return x.Stamp > h.Stamp
	}
	return x.Ver.R > h.Ver.R || x.Ver.R == h.Ver.R && x.Ver.C > h.Ver.C
}

// wanted tells what Answer is to tell, sentence by sentence; s may be.
func wanted(s api.State, m api.Msg, turn int) []api.Msg {
	if !mayAsk(m) || m.To != s.R {
		return nil
	}
	stands := map[string]api.Item{}
	for _, x := range slices.Concat(s.Store, s.Out) {
		stands[x.Id] = x
	}
	var l, lost []api.Entry
	for _, id := range slices.Sorted(maps.Keys(stands)) {
		if x := stands[id]; !know.Has(m.K, x.Id, x.Ver) && eval.Has(m.F, x) {
			l = append(l, api.Entry{Item: x})
		}
	}
	for _, h := range m.Have {
		x, there := stands[h.Id]
		e := api.Entry{Goes: true, New: x.Ver}
		e.Item.Id, e.Item.Ver = h.Id, h.Ver
		switch {
		case there && !eval.Has(m.F, x) && behind(x, h):
			l = append(l, e)
		case !there && know.Has(s.K, h.Id, h.Ver):
			lost = append(lost, e)
		}
	}
	return inMessages(s, m, turn, l, lost)
}

// inMessages tells those entries as batches, and the Done behind them, with lost, if F is seen in that of s.
func inMessages(s api.State, m api.Msg, turn int, l, lost []api.Entry) []api.Msg {
	var told []api.Msg
	for len(l) > 0 {
		n := min(len(l), 4)
		told = append(told, api.Msg{Kind: 2, From: m.To, To: m.From, Sid: m.Sid, Turn: turn, N: len(told), L: l[:n]})
		l = l[n:]
	}
	d := api.Msg{Kind: 3, From: m.To, To: m.From, Sid: m.Sid, Turn: turn, N: len(told)}
	if contain.In(m.F, s.F) {
		d.K, d.L = s.K, lost
	}
	return append(told, d)
}

// roomy is v in memory of its own, with room behind all its lists, in which something stands.
func roomy(v reflect.Value) reflect.Value {
	w := reflect.New(v.Type()).Elem()
	switch v.Kind() {
	case reflect.Struct:
		for i := range v.NumField() {
			w.Field(i).Set(roomy(v.Field(i)))
		}
	case reflect.Slice:
		w.Set(reflect.MakeSlice(v.Type(), v.Len()+3, v.Len()+3))
		for i := range w.Len() {
			if i < v.Len() {
				w.Index(i).Set(roomy(v.Index(i)))
			} else {
				scribble(w.Index(i))
			}
		}
		w.SetLen(v.Len())
	default:
		w.Set(v)
	}
	return w
}

// copyOf is v in memory of its own, with room behind all its lists.
func copyOf[T any](v T) T { return roomy(reflect.ValueOf(v)).Interface().(T) }

// scribble writes over all of v, what stands behind its lists, too.
func scribble(v reflect.Value) {
	switch v.Kind() {
	case reflect.Struct:
		for i := range v.NumField() {
			scribble(v.Field(i))
		}
	case reflect.Slice:
		for i := range v.Cap() {
			scribble(v.Slice(0, v.Cap()).Index(i))
		}
	case reflect.Array:
		for i := range v.Len() {
			scribble(v.Index(i))
		}
	case reflect.Int:
		v.SetInt(99)
	case reflect.String:
		v.SetString("over")
	case reflect.Complex128:
		v.SetComplex(99)
	case reflect.Bool:
		v.SetBool(true)
	}
}

// overwrite writes over all that v has.
func overwrite[T any](v T) { scribble(reflect.ValueOf(&v).Elem()) }

// places puts where each element of each list of v stands, behind their lengths, too, behind l.
func places(l []uintptr, v reflect.Value) []uintptr {
	switch v.Kind() {
	case reflect.Struct:
		for i := range v.NumField() {
			l = places(l, v.Field(i))
		}
	case reflect.Slice:
		v = v.Slice(0, v.Cap())
		for i := range v.Len() {
			l = places(append(l, v.Index(i).Addr().Pointer()), v.Index(i))
		}
	}
	return l
}

// alikeValues tells whether both are written alike, with what stands behind their lists, if behind asks for it: nil and empty are one, no number is like itself, and -0 isn't 0.
func alikeValues(a, b reflect.Value, behind bool) bool {
	switch a.Kind() {
	case reflect.Struct:
		for i := range a.NumField() {
			if !alikeValues(a.Field(i), b.Field(i), behind) {
				return false
			}
		}
		return true
	case reflect.Slice:
		if a.Len() != b.Len() || behind && a.Cap() != b.Cap() {
			return false
		}
		if behind {
			a, b = a.Slice(0, a.Cap()), b.Slice(0, b.Cap())
		}
		for i := range a.Len() {
			if !alikeValues(a.Index(i), b.Index(i), behind) {
				return false
			}
		}
		return true
	case reflect.Complex128:
		bits := func(c complex128) [2]uint64 { return [2]uint64{math.Float64bits(real(c)), math.Float64bits(imag(c))} }
		return bits(a.Complex()) == bits(b.Complex())
	}
	return a.Interface() == b.Interface()
}

// alike tells whether both are written alike.
func alike[T any](a, b T) bool { return alikeValues(reflect.ValueOf(a), reflect.ValueOf(b), false) }

// untouched tells whether v is what copyOf told of was, behind all its lists, too.
func untouched[T any](v, was T) bool {
	return alikeValues(reflect.ValueOf(v), reflect.ValueOf(copyOf(was)), true)
}

// checkMay asks whether m may be, and that it isn't changed: P12.1, R2.
func checkMay(t *testing.T, m api.Msg, want bool) {
	t.Helper()
	asked := copyOf(m)
	if got := serve.May(asked); got != want || serve.May(asked) != want {
		t.Errorf("May(%+v) = %v", m, got)
	}
	if !untouched(asked, m) {
		t.Errorf("May(%+v) changed it", m)
	}
	// What may not be isn't answered; and what may be is, if it is to that one.
	if got := serve.Answer(empty(m.To, star), m, 1); len(got) > 0 != want {
		t.Errorf("Answer to %+v = %+v", m, got)
	}
}

// checkIs asks for that answer, and that it is new memory: P12.1, P12.2, R2, R3.
func checkIs(t *testing.T, was api.State, wasAsked api.Msg, turn int, want []api.Msg) []api.Msg {
	t.Helper()
	s, m := copyOf(was), copyOf(wasAsked)
	got := serve.Answer(s, m, turn)
	if !alike(got, want) {
		t.Fatalf("Answer(%+v, %+v, %d) = %+v, want %+v", was, wasAsked, turn, got, want)
	}
	if !untouched(s, was) || !untouched(m, wasAsked) {
		t.Fatalf("Answer(%+v, %+v, %d) changed them: %+v, %+v", was, wasAsked, turn, s, m)
	}
	taken := map[uintptr]bool{}
	l := places(places(nil, reflect.ValueOf(s)), reflect.ValueOf(m))
	for _, p := range places(l, reflect.ValueOf(got)) {
		if taken[p] {
			t.Fatalf("of %+v and %+v came %+v, of which two lists, or one and one that was handed in, share memory", was, wasAsked, got)
		}
		taken[p] = true
	}
	want = copyOf(want)
	overwrite(s)
	if overwrite(m); !alike(got, want) {
		t.Fatalf("of %+v and %+v came %+v, and %+v once they are written over", was, wasAsked, want, got)
	}
	checkOthers(t, was, wasAsked, turn, want)
	return want
}

// checkOthers asks that, where one message of an answer is written over, what was handed in and the other messages stay: P12.2.
func checkOthers(t *testing.T, was api.State, wasAsked api.Msg, turn int, want []api.Msg) {
	t.Helper()
	s, m := copyOf(was), copyOf(wasAsked)
	got := serve.Answer(s, m, turn)
	for i := range got {
		overwrite(got[i])
		if !untouched(s, was) || !untouched(m, wasAsked) || !alike(got[i+1:], want[i+1:]) {
			t.Fatalf("%+v, %+v, %+v once message %d that came of them is written over", s, m, got, i)
		}
	}
	overwrite(got)
	// Nothing is kept, so that the same is told once more.
	if got = serve.Answer(s, m, turn); !alike(got, want) {
		t.Fatalf("Answer(%+v, %+v, %d) the next time = %+v", was, wasAsked, turn, got)
	}
}

// check asks of a state that may be for what the chapter's sentences say, that it is new memory, and that no item is answered that is known, or that F hasn't: P12.1 to P12.3.
func check(t *testing.T, s api.State, m api.Msg, turn int) []api.Msg {
	t.Helper()
	if !local.May(s) {
		t.Fatalf("%+v may not be", s)
	}
	told := checkIs(t, s, m, turn, wanted(s, m, turn))
	for _, x := range told {
		for _, e := range x.L {
			if !e.Goes && (know.Has(m.K, e.Item.Id, e.Item.Ver) || !eval.Has(m.F, e.Item)) {
				t.Fatalf("%+v is answered to %+v", e, m)
			}
		}
	}
	return told
}

// told are all entries of the batches of an answer, in order.
func told(l []api.Msg) []api.Entry {
	var all []api.Entry
	for _, x := range l {
		if x.Kind == api.Batch {
			all = append(all, x.L...)
		}
	}
	return all
}

// checkTold asks for those entries, and for that Done's entries: P12.1.
func checkTold(t *testing.T, s api.State, m api.Msg, want, lost []api.Entry) {
	t.Helper()
	l := check(t, s, m, 7)
	if got := told(l); !alike(got, want) {
		t.Errorf("to %+v %+v answers %+v, want %+v", m, s, got, want)
	}
	if got := l[len(l)-1]; got.Kind != api.Done || !alike(got.L, lost) {
		t.Errorf("to %+v %+v ends its answer with %+v, want %+v", m, s, got, lost)
	}
}

// TestMayNumbers tries Kinds, replicas and numbers of sessions.
func TestMayNumbers(t *testing.T) { // P12.1
	checkMay(t, asked(), true)
	checkMay(t, api.Msg{}, false)
	checkMay(t, api.Msg{Kind: api.Ask, From: 1, To: 2, F: star}, true)
	for _, n := range append(numbers(), api.Ask, api.Batch, api.Done, api.Ack, 6, 7) {
		m := asked()
		m.Kind = n
		checkMay(t, m, n == 1)
		m = asked()
		m.Sid = n
		checkMay(t, m, n >= 0 && n <= 1000000)
		for _, k := range append(numbers(), n, 6, 7) {
			m := asked()
			m.From, m.To = n, k
			checkMay(t, m, n >= 1 && n <= 8 && k >= 1 && k <= 8 && n != k)
		}
	}
}

// TestMayBare sets what the chapter doesn't name, each by itself.
func TestMayBare(t *testing.T) { // P12.1
	for _, n := range numbers() {
		m := asked()
		m.Turn = n
		checkMay(t, m, n == 0)
		m = asked()
		m.N = n
		checkMay(t, m, n == 0)
	}
	m := asked()
	m.Star = true
	checkMay(t, m, false)
	for _, l := range [][]api.Entry{make([]api.Entry, 1), make([]api.Entry, 2), entries(made("a", 1, 1, 1, 1)), {goes("a", 1, 1, api.Ver{})}} {
		m := asked()
		m.L = l
		checkMay(t, m, false)
	}
	m = asked()
	m.L, m.Have = []api.Entry{}, []api.Has{}
	checkMay(t, m, true)
}

// TestMayParts tries filters, and what is known, that may be and may not.
func TestMayParts(t *testing.T) { // P12.1
	for may, l := range map[bool][]api.Pred{true: filters(), false: oddFilters()} {
		for _, f := range l {
			m := asked()
			m.F = f
			checkMay(t, m, may)
		}
	}
	for may, l := range map[bool][]api.Know{true: knowns(), false: oddKnowns()} {
		for _, k := range l {
			m := asked()
			m.K = k
			checkMay(t, m, may)
		}
	}
}

// TestMayHave tries lists of what is had: their lengths, their order, and each part of one at each place.
func TestMayHave(t *testing.T) { // P12.1
	for _, n := range []int{0, 1, 2, 3, 4, 5, 39, 40, 41, 42, 80, 500} {
		m := asked()
		m.Have = haves(n)
		checkMay(t, m, n <= 40)
	}
	for i := range 5 {
		try := func(want bool, change func(h *api.Has)) {
			m := asked()
			m.Have = haves(5)
			change(&m.Have[i])
			checkMay(t, m, want)
		}
		for _, n := range numbers() {
			try(n >= 1 && n <= 8, func(h *api.Has) { h.Ver.R = n })
			try(n >= 1 && n <= 1000, func(h *api.Has) { h.Ver.C = n })
			try(n >= 1 && n <= 1000000, func(h *api.Has) { h.Stamp = n })
		}
		for _, id := range oddTexts() {
			try(false, func(h *api.Has) { h.Id = id })
			m := asked()
			m.Have = []api.Has{has(id, 1, 1, 1)}
			checkMay(t, m, false)
		}
		// Alone, so that it is its own order that tells.
		m := asked()
		m.Have = []api.Has{has("zzzzzzzz", 8, 1000, 1000000), has("zzzzzzzz", 8, 1000, 1000000)}[:1+i%2]
		checkMay(t, m, i%2 == 0)
	}
	for _, ids := range [][]string{{"b", "a"}, {"a", "a"}, {"ab", "a"}, {"b", "ab"}, {"a", "c", "b"}, {"b", "a", "c"}, {"a", "b", "b"}, {"a", "a", "b"}, {"a", "b", "a"}, {"a", "b", "c", "d", "c"}} {
		m := asked()
		m.Have = nil
		for i, id := range ids {
			m.Have = append(m.Have, has(id, 1+i, 1+i, 1+i))
		}
		checkMay(t, m, false)
		slices.SortFunc(m.Have, func(a, b api.Has) int { return strings.Compare(a.Id, b.Id) })
		checkMay(t, m, len(slices.Compact(slices.Sorted(slices.Values(ids)))) == len(ids))
	}
	m := asked()
	m.Have = []api.Has{has("a", 8, 1000, 1000000), has("aa", 1, 1, 1), has("ab", 8, 1, 1), has("b", 1, 1000, 3), has("zzzzzzzz", 1, 1, 2)}
	checkMay(t, m, true)
}

// TestNothing asks replicas that have, and know, nothing: one Done, of 0.
func TestNothing(t *testing.T) { // P12.1
	for r := 1; r <= 8; r++ {
		for _, f := range filters() {
			s, err := local.New(r, f)
			if err != nil {
				t.Fatal(err)
			}
			m := api.Msg{Kind: api.Ask, From: r%8 + 1, To: r, Sid: 9, F: less(5), K: asked().K, Have: haves(40)}
			checkIs(t, s, m, 3, []api.Msg{{Kind: api.Done, From: r, To: r%8 + 1, Sid: 9, Turn: 3}})
			check(t, s, m, 3)
		}
	}
}

// TestWhole writes a whole answer out, and those to what may not be, or goes to another replica.
func TestWhole(t *testing.T) { // P12.1
	batch := api.Msg{Kind: api.Batch, From: 3, To: 5, Sid: 21, Turn: 6, L: []api.Entry{
		{Item: api.Item{Id: "a", Ver: api.Ver{R: 2, C: 5}, Stamp: 6, Kind: "pot", Num: 3, At: 3 - 4i}},
		{Item: api.Item{Id: "c", Ver: api.Ver{R: 1, C: 2}, Stamp: 4, Kind: "pot", Num: 4, At: 3 - 4i, Dead: true}},
		{Item: api.Item{Id: "b", Ver: api.Ver{R: 4, C: 2}}, Goes: true, New: api.Ver{R: 3, C: 2}},
	}}
	done := api.Msg{Kind: api.Done, From: 3, To: 5, Sid: 21, Turn: 6, N: 1, K: api.Know{Star: api.Vec{1, 0, 1}, L: []api.Frag{
		{Ids: []string{"a"}, Vec: api.Vec{0, 5}}, {Ids: []string{"b"}, Vec: api.Vec{0, 0, 2}}, {Ids: []string{"c"}, Vec: api.Vec{2}}, {Ids: []string{"d", "f", "g", "h"}, Vec: api.Vec{0, 7}},
	}}, L: []api.Entry{{Item: api.Item{Id: "f", Ver: api.Ver{R: 2, C: 7}}, Goes: true}}}
	checkIs(t, base(), asked(), 6, []api.Msg{batch, done})
	check(t, base(), asked(), 6)
	for r := range 10 {
		s := base()
		s.R = r
		if got := serve.Answer(s, asked(), 6); len(got) > 0 != (r == 3) {
			t.Errorf("replica %d answers %+v", r, got)
		}
		m := asked()
		m.To = r
		checkMay(t, m, r >= 1 && r <= 8 && r != 5)
		if got := serve.Answer(base(), m, 6); len(got) > 0 != (r == 3) {
			t.Errorf("replica 3 answers %+v to what is for %d", got, r)
		}
	}
	for _, change := range []func(m *api.Msg){
		func(m *api.Msg) { m.Kind = api.Batch }, func(m *api.Msg) { m.From = 3 }, func(m *api.Msg) { m.From = 9 }, func(m *api.Msg) { m.Sid = -1 }, func(m *api.Msg) { m.Turn = 6 }, func(m *api.Msg) { m.N = 1 }, func(m *api.Msg) { m.F = and(not()) },
		func(m *api.Msg) { m.K.L[0].Ids[0] = "l" }, func(m *api.Msg) { m.Have[2].Id = "f" }, func(m *api.Msg) { m.Have = haves(41) }, func(m *api.Msg) { m.L = make([]api.Entry, 1) }, func(m *api.Msg) { m.Star = true },
	} {
		m := asked()
		change(&m)
		checkIs(t, base(), m, 6, nil)
	}
}

// TestNumbers asks that the answer goes back to who asked, under that session's number, in that turn, which may be any.
func TestNumbers(t *testing.T) { // P12.1
	for r := 1; r <= 8; r++ {
		for from := 1; from <= 8; from++ {
			s, m := base(), asked()
			s.R, m.To, m.From, s.Count = r, r, from, 1000
			for _, sid := range []int{0, 1, 21, 999999, 1000000} {
				m.Sid = sid
				l := check(t, s, m, sid+2)
				if r == from && len(l) > 0 || r != from && len(l) != 2 {
					t.Errorf("%+v answers %+v", s, l)
				}
			}
		}
	}
	for _, turn := range numbers() {
		for i, x := range check(t, base(), asked(), turn) {
			if x.Turn != turn || x.From != 3 || x.To != 5 || x.Sid != 21 || x.Kind != i+2 || x.Star || len(x.Have) > 0 || !alike(x.F, api.Pred{}) {
				t.Errorf("in turn %d: %+v", turn, x)
			}
		}
	}
}

// TestBatches asks for any number of entries: items, what goes, and both.
func TestBatches(t *testing.T) { // P12.1
	for n := range 41 {
		for _, f := range []api.Pred{star, less(5), more(5), none} {
			s := filled(n/3, n-n/3)
			m := api.Msg{Kind: api.Ask, From: 2, To: 5, F: f}
			for i := range n {
				m.Have = append(m.Have, has(name(i), 5, i+1, 0+max(i, 1)))
			}
			l := check(t, s, m, 1)
			// Each one stands, and its version comes behind what is had but for the first one, whose Stamp is the same.
			all := told(l)
			if f.Op == api.Star && len(all) != n || f.Op == api.None && len(all) != max(n-1, 0) {
				t.Fatalf("of %d: %+v", n, all)
			}
			if len(l) != (len(all)+3)/4+1 || l[len(l)-1].N != len(l)-1 {
				t.Fatalf("%d entries in %+v", len(all), l)
			}
			for i, x := range l[:len(l)-1] {
				if x.N != i || len(x.L) != 4 && (i < len(l)-2 || len(x.L) != (len(all)-1)%4+1) {
					t.Fatalf("batch %d of %d entries: %+v", i, len(all), x)
				}
			}
		}
	}
}

// TestOrder asks for items by rising Ids over both sides, whatever stands where, and of what goes in Have's order behind them.
func TestOrder(t *testing.T) { // P12.1
	s, m := base(), asked()
	m.F, m.K, m.Have = star, api.Know{}, nil
	l := []api.Item{s.Store[0], s.Out[0], s.Store[1], s.Out[1], s.Store[2]}
	checkTold(t, s, m, entries(l...), nil)
	u := base()
	u.Out = nil
	checkTold(t, u, m, entries(s.Store...), nil)
	u = base()
	u.Store = nil
	checkTold(t, u, m, entries(s.Out...), nil)
	// What goes is ahead of the items by its Id, between them, and behind; it comes behind them all, in the batch that isn't full.
	m.F = api.Pred{Op: api.Prefix, Text: "c"}
	m.Have = []api.Has{has("a", 4, 1, 1), has("b", 4, 2, 1), has("c", 4, 3, 1), has("d", 4, 4, 1), has("e", 4, 5, 1)}
	want := append(entries(s.Store[1]), goes("a", 4, 1, api.Ver{R: 2, C: 5}), goes("b", 4, 2, api.Ver{R: 3, C: 2}), goes("d", 4, 4, api.Ver{R: 2, C: 7}), goes("e", 4, 5, api.Ver{R: 3, C: 1}))
	checkTold(t, s, m, want, nil)
	if l := serve.Answer(s, m, 7); len(l) != 3 || len(l[0].L) != 4 || len(l[1].L) != 1 {
		t.Errorf("batches: %+v", l)
	}
}

// TestItems asks for an item that K knows, by Star or by a piece, and that F has, both, and neither.
func TestItems(t *testing.T) { // P12.1, P12.3
	a, c := base().Store[0], base().Store[1]
	for _, v := range []struct {
		f    api.Pred
		k    api.Know
		want []api.Entry
	}{
		{less(5), api.Know{}, entries(a, c)}, {less(4), api.Know{}, entries(a)}, {more(4), api.Know{}, entries(c)}, {more(5), api.Know{}, nil}, {star, api.Know{}, entries(a, c)}, {none, api.Know{}, nil},
		{less(5), api.Know{Star: api.Vec{0, 5}}, entries(c)}, {less(5), api.Know{Star: api.Vec{0, 4}}, entries(a, c)}, {less(5), api.Know{Star: api.Vec{2, 5}}, nil}, {less(5), api.Know{Star: api.Vec{1, 1000}}, entries(c)}, {less(4), api.Know{Star: api.Vec{2, 4}}, entries(a)}, {less(4), api.Know{Star: api.Vec{2, 5}}, nil},
		{less(5), api.Know{L: []api.Frag{frag(api.Vec{0, 5}, "a")}}, entries(c)}, {less(5), api.Know{L: []api.Frag{frag(api.Vec{0, 4}, "a")}}, entries(a, c)}, {less(5), api.Know{L: []api.Frag{frag(api.Vec{9, 9}, "b", "d")}}, entries(a, c)}, {less(5), api.Know{L: []api.Frag{frag(api.Vec{2, 4}, "a", "c")}}, entries(a)},
		{more(4), api.Know{L: []api.Frag{frag(api.Vec{2}, "c")}}, nil},
	} {
		for _, out := range []bool{false, true} {
			s := empty(3, star)
			s.Store = []api.Item{a, c}
			if out {
				s.F, s.Store, s.Out = none, nil, s.Store
			}
			s.K, s.Clock = api.Know{Star: api.Vec{9, 9}}, 9
			m := api.Msg{Kind: api.Ask, From: 5, To: 3, F: v.f, K: v.k}
			checkTold(t, s, m, v.want, nil)
			// That it is had doesn't matter.
			m.Have = []api.Has{has("a", 2, 5, 6), has("c", 1, 2, 4)}
			checkTold(t, s, m, v.want, nil)
		}
	}
}

// TestGoes asks for what goes: what stands there comes behind what is had, by Stamp, by replica, by count, or just as it, or ahead of it.
func TestGoes(t *testing.T) { // P12.1
	x := made("b", 7, 4, 20, 30)
	for _, v := range []struct {
		h    api.Has
		goes bool
	}{
		{has("b", 1, 1, 29), true}, {has("b", 8, 1000, 29), true}, {has("b", 4, 20, 29), true}, {has("b", 1, 1, 1), true},
		{has("b", 3, 20, 30), true}, {has("b", 3, 1000, 30), true}, {has("b", 4, 19, 30), true}, {has("b", 4, 1, 30), true},
		{has("b", 4, 20, 30), false},
		{has("b", 4, 21, 30), false}, {has("b", 5, 1, 30), false}, {has("b", 8, 1000, 30), false}, {has("b", 4, 20, 31), false}, {has("b", 1, 1, 31), false}, {has("b", 1, 1, 1000000), false},
		{has("a", 1, 1, 1), false}, {has("ba", 1, 1, 1), false}, {has("c", 1, 1, 1), false},
	} {
		for i, k := range []api.Know{{}, {Star: api.Vec{0, 0, 0, 20}}, {L: []api.Frag{frag(api.Vec{0, 0, 0, 20}, "b")}}, {Star: api.Vec{1000, 1000, 1000, 1000, 1000, 1000, 1000, 1000}}} {
			for _, x := range []api.Item{x, dead(x)} {
				s := empty(3, star)
				s.Store, s.K, s.Clock = []api.Item{x}, api.Know{Star: api.Vec{0, 0, 0, 20}}, 40
				if i%2 == 1 {
					s.F, s.Store, s.Out = less(5), nil, s.Store
				}
				m := api.Msg{Kind: api.Ask, From: 5, To: 3, F: less(7), K: k, Have: []api.Has{v.h}}
				var want []api.Entry
				if v.goes {
					want = []api.Entry{goes("b", v.h.Ver.R, v.h.Ver.C, api.Ver{R: 4, C: 20})}
				}
				// Of what stands nowhere it tells in Done only what it knows.
				checkTold(t, s, m, want, nil)
				// An item that F has doesn't go, but is told, unless it is known.
				m.F = less(8)
				if want = entries(x); i > 0 {
					want = nil
				}
				checkTold(t, s, m, want, nil)
			}
		}
	}
}

// TestDone asks what Done tells where F is seen in the state's, and where it isn't.
func TestDone(t *testing.T) { // P12.1
	k := api.Know{Star: api.Vec{1, 0, 2}, L: []api.Frag{frag(api.Vec{4}, "b", "d"), frag(api.Vec{0, 3}, "c", "e", "g")}}
	s := empty(3, less(5))
	s.Store, s.Out = []api.Item{made("c", 4, 2, 3, 9)}, []api.Item{made("d", 5, 1, 4, 9)}
	s.K, s.Count, s.Clock = k, 2, 9
	have := []api.Has{
		has("a", 1, 1, 8), has("b", 1, 4, 30), has("c", 2, 3, 9), has("d", 1, 4, 9), has("e", 2, 3, 1), has("f", 2, 3, 1), has("g", 2, 4, 1), has("h", 3, 2, 1), has("i", 3, 3, 1000000),
	}
	lost := []api.Entry{goes("a", 1, 1, api.Ver{}), goes("b", 1, 4, api.Ver{}), goes("e", 2, 3, api.Ver{}), goes("h", 3, 2, api.Ver{})}
	for _, v := range []struct {
		asked, f api.Pred
		seen     bool
	}{
		{less(5), less(5), true}, {less(4), less(5), true}, {less(6), less(5), false}, {star, less(5), false}, {none, less(5), true}, {or(less(1), less(5)), less(5), true}, {or(less(1), less(6)), less(5), false}, {and(less(6), less(5)), less(5), true}, {and(), less(5), false}, {more(1), less(5), false}, {not(more(5)), less(5), false}, {kind("pot"), less(5), false},
	} {
		m := api.Msg{Kind: api.Ask, From: 5, To: 3, F: v.asked, K: api.Know{Star: api.Vec{9, 9, 9}}, Have: have}
		if v.seen {
			checkTold(t, s, m, nil, lost)
		} else {
			checkTold(t, s, m, nil, nil)
		}
		l := serve.Answer(s, m, 7)
		if got := l[len(l)-1].K; v.seen && !alike(got, k) || !v.seen && !alike(got, api.Know{}) {
			t.Errorf("of %+v asked of %+v Done tells that %+v is known", v.asked, v.f, got)
		}
	}
	// Of a state that has all each filter is seen.
	u := s
	u.F, u.Store, u.Out = star, []api.Item{s.Store[0], s.Out[0]}, nil
	for _, f := range filters() {
		m := api.Msg{Kind: api.Ask, From: 5, To: 3, F: f, K: api.Know{Star: api.Vec{9, 9, 9}}, Have: have}
		checkTold(t, u, m, nil, lost)
	}
	// All 40 of Have may be told of.
	v := empty(3, star)
	v.K.Star = api.Vec{1000, 1000, 0, 1000, 1000, 1000, 1000, 1000}
	m := api.Msg{Kind: api.Ask, From: 5, To: 3, F: star, Have: haves(40)}
	var want []api.Entry
	for _, h := range m.Have {
		if h.Ver.R != 3 {
			want = append(want, goes(h.Id, h.Ver.R, h.Ver.C, api.Ver{}))
		}
	}
	checkTold(t, v, m, nil, want)
}

// TestKnown asks that the Done tells what the state knows as it is written, in new memory.
func TestKnown(t *testing.T) { // P12.1, P12.2
	for _, k := range knowns() {
		for _, f := range filters() {
			s := empty(2, f)
			s.K, s.Count = k, 1000
			m := asked()
			m.To = 2
			l := check(t, s, m, 4)
			if got := l[len(l)-1].K; contain.In(m.F, f) && !alike(got, k) || !contain.In(m.F, f) && !alike(got, api.Know{}) {
				t.Errorf("%+v tells that %+v is known", s, got)
			}
		}
	}
}

// TestShared asks for new memory where lists that are handed in share some: P12.2.
func TestShared(t *testing.T) {
	ids := []string{"a", "b", "c", "d"}
	k := api.Know{L: []api.Frag{{Ids: ids[:2], Vec: api.Vec{0, 5}}, {Ids: ids[2:], Vec: api.Vec{2, 7}}}}
	s, m := base(), asked()
	s.K, s.Store, s.Out = k, s.Store[:2], nil
	m.K, m.F = k, and(s.F, less(5))
	s.F = m.F
	m.Have = append(m.Have[:0], has("d", 2, 7, 1))
	want := copyOf(wanted(s, m, 5))
	got := serve.Answer(s, m, 5)
	if d := got[len(got)-1]; !alike(got, want) || !alike(d.K, k) || len(d.L) != 1 {
		t.Fatalf("Answer(%+v, %+v) = %+v", s, m, got)
	}
	overwrite(s)
	if overwrite(m); !alike(got, want) {
		t.Errorf("%+v once what was handed in is written over", got)
	}
}

// TestNext asks that answers told one behind the other stay as they were told: nothing is kept: P12.1, P12.2.
func TestNext(t *testing.T) {
	var got, want [][]api.Msg
	states := []api.State{base(), filled(9, 3), base(), filled(0, 4), filled(40, 0), empty(3, star)}
	for i := range 60 {
		s, m := states[i%len(states)], asked()
		m.To, m.Sid, m.F = s.R, i, filters()[i%len(filters())]
		m.From = s.R%8 + 1
		got, want = append(got, serve.Answer(s, m, i)), append(want, copyOf(wanted(s, m, i)))
	}
	for i := range got {
		if !alike(got[i], want[i]) {
			t.Errorf("the answer told as number %d is %+v now, want %+v", i, got[i], want[i])
		}
		overwrite(got[i])
	}
}

// take lets s take an answer, in order; an item that is an error is left out. It tells whether there was an error.
func take(s api.State, l []api.Msg) (api.State, bool) {
	odd := false
	for _, x := range l {
		for _, e := range x.L {
			if e.Goes {
				s = recv.Goes(s, e.Item.Id, e.Item.Ver, e.New)
				continue
			}
			var err error
			s, err = recv.Item(s, e.Item)
			odd = odd || err != nil
		}
	}
	return s, odd
}

// pull lets a take what b answers, asks b again, and asks that nothing of it is answered again: P12.3.
func pull(t *testing.T, a, b api.State) (api.State, []api.Msg) {
	t.Helper()
	_, m := ask.Open(a, b.R, 4)
	first := check(t, b, m, 5)
	a, odd := take(a, first)
	if _, m = ask.Open(a, b.R, 5); !local.May(a) {
		t.Fatalf("%+v may not be", a)
	}
	again := check(t, b, m, 6)
	for _, x := range again {
		for _, e := range x.L {
			if !odd || e.Goes || know.Has(a.K, e.Item.Id, e.Item.Ver) {
				t.Fatalf("%+v is answered again to %+v, by %+v, behind %+v", e, a, b, first)
			}
		}
	}
	return a, first
}

// TestAgain asks that what was taken isn't answered again: an item, one that goes with one behind it, and one that Done tells of.
func TestAgain(t *testing.T) { // P12.3
	a := empty(5, less(5))
	a.Store = []api.Item{made("b", 3, 3, 1, 1), made("f", 3, 2, 7, 8), made("g", 4, 1, 9, 9)}
	a.K, a.Clock = api.Know{Star: api.Vec{9, 0, 1}, L: []api.Frag{frag(api.Vec{0, 7}, "f")}}, 9
	got, l := pull(t, a, base())
	want := append(entries(base().Store[0]), goes("b", 3, 1, api.Ver{R: 3, C: 2}))
	if !alike(told(l), want) || !alike(l[1].L, []api.Entry{goes("f", 2, 7, api.Ver{})}) {
		t.Errorf("%+v", l)
	}
	if len(got.Store) != 2 || got.Store[0] != base().Store[0] || got.Store[1] != a.Store[2] {
		t.Errorf("%+v", got)
	}
	if _, l = pull(t, got, base()); len(l) != 1 {
		t.Errorf("%+v", l)
	}
}

// pick is one of l.
func pick[T any](r *rand.Rand, l ...T) T { return l[r.Intn(len(l))] }

// anyFilter is a filter; some of these are often seen in each other.
func anyFilter(r *rand.Rand) api.Pred {
	if r.Intn(3) == 0 {
		return pick(r, filters()...)
	}
	return pick(r, less(3), less(5), less(7), below9())
}

// deed lets s make a version, or take another filter.
func deed(r *rand.Rand, s api.State) api.State {
	id, num, at := name(r.Intn(60)*5), r.Intn(10), pick(r, 0, 3-4i, 1000i)
	switch r.Intn(9) {
	case 0, 1, 2:
		s, _ = local.Create(s, id, pick(r, "", "pot", "cup"), num, at)
	case 3, 4, 5:
		if l := slices.Concat(s.Store, s.Out); len(l) > 0 {
			id = pick(r, l...).Id
		}
		s, _ = local.Update(s, id, pick(r, "", "pot", "cup"), num, at)
	case 6, 7:
		if l := slices.Concat(s.Store, s.Out); len(l) > 0 {
			id = pick(r, l...).Id
		}
		s, _ = local.Delete(s, id)
	case 8:
		if r.Intn(4) == 0 {
			s, _ = local.Filter(s, anyFilter(r))
		}
	}
	return s
}

// TestManyDeeds lets replicas pull from each other behind many deeds: P12.1 to P12.3.
func TestManyDeeds(t *testing.T) {
	r := rand.New(rand.NewSource(1))
	items, gone, lost, longest := 0, 0, 0, 0
	for range 24 {
		var l []api.State
		for i := range 4 {
			s, err := local.New(i+1, anyFilter(r))
			if err != nil {
				t.Fatal(err)
			}
			l = append(l, s)
		}
		for range 120 {
			i, k := r.Intn(4), r.Intn(4)
			if l[i] = deed(r, l[i]); i == k {
				continue
			}
			var answer []api.Msg
			l[i], answer = pull(t, l[i], l[k])
			d := answer[len(answer)-1]
			// What Done tells is known then, as layer 13 says.
			if r.Intn(2) == 0 {
				l[i].K = know.Join(l[i].K, d.K)
			}
			lost, longest = lost+len(d.L), max(longest, len(answer))
			for _, e := range told(answer) {
				if e.Goes {
					gone++
				} else {
					items++
				}
			}
		}
	}
	if items < 1000 || gone < 80 || lost < 20 || longest < 5 {
		t.Errorf("%d items, %d go, %d go by Done, at most %d messages", items, gone, lost, longest)
	}
}

// shaken is a message near to asked, or to one that s could be asked, most of which may not be.
func shaken(r *rand.Rand, s api.State) api.Msg {
	m := asked()
	m.To, m.F, m.K = s.R, pick(r, filters()...), pick(r, knowns()...)
	if r.Intn(2) == 0 {
		m.Have = haves(r.Intn(43))
	}
	for range r.Intn(3) {
		pick(r,
			func() { m.Kind = pick(r, numbers()...) }, func() { m.From = pick(r, numbers()...) }, func() { m.To = pick(r, numbers()...) }, func() { m.Sid = pick(r, numbers()...) }, func() { m.Turn = pick(r, numbers()...) }, func() { m.N = pick(r, numbers()...) }, func() { m.Star = r.Intn(2) == 0 },
			func() { m.F = pick(r, oddFilters()...) }, func() { m.K = pick(r, oddKnowns()...) }, func() { m.L = make([]api.Entry, r.Intn(2)) },
			func() {
				m.Have = append(m.Have, has(pick(r, append(oddTexts(), "a", "zz")...), pick(r, numbers()...), pick(r, numbers()...), pick(r, numbers()...)))
			},
			func() { slices.Reverse(m.Have) }, func() { m.Have = append(m.Have, m.Have...) }, func() { m = api.Msg{} },
		)()
	}
	return m
}

// TestAnyAsk asks states that may be by any messages: P1, P12.1 to P12.3.
func TestAnyAsk(t *testing.T) {
	r := rand.New(rand.NewSource(2))
	may := map[bool]int{}
	for range 3000 {
		n := r.Intn(41)
		s := pick(r, base(), filled(r.Intn(n+1), 40-n), empty(1+r.Intn(8), star))
		m := shaken(r, s)
		may[mayAsk(m)]++
		checkMay(t, m, mayAsk(m))
		check(t, s, m, pick(r, numbers()...))
	}
	if may[true] < 500 || may[false] < 500 {
		t.Errorf("of those that may be, and may not: %v", may)
	}
}

// changes are ways in which a state may become one that may not be.
func changes(r *rand.Rand) []func(s *api.State) {
	one := func(s *api.State) *api.Item {
		s.Store = append(s.Store, made(name(r.Intn(600)), r.Intn(9), 1+r.Intn(8), 1+r.Intn(50), 1+r.Intn(60)))
		return &s.Store[r.Intn(len(s.Store))]
	}
	id := func() string { return pick(r, append(oddTexts(), "a", "z", "aa")...) }
	places := []complex128{1001, 0.5i, complex(math.NaN(), 0), complex(0, math.Inf(-1)), complex(math.Copysign(0, -1), 0)}
	return []func(s *api.State){
		func(s *api.State) { s.R = pick(r, numbers()...) }, func(s *api.State) { s.Epoch = pick(r, numbers()...) }, func(s *api.State) { s.Clock, s.Count = pick(r, numbers()...), pick(r, numbers()...) },
		func(s *api.State) { s.F = pick(r, slices.Concat(filters(), oddFilters())...) }, func(s *api.State) { s.K = pick(r, slices.Concat(knowns(), oddKnowns())...) }, func(s *api.State) { *s = api.State{} },
		func(s *api.State) { s.Store, s.Out = s.Out, s.Store }, func(s *api.State) { slices.Reverse(s.Store) }, func(s *api.State) { s.Store = slices.Concat(s.Store, s.Out, s.Store) }, func(s *api.State) { s.Out = slices.Concat(s.Store, s.Out) },
		func(s *api.State) { one(s).Id = id() }, func(s *api.State) { one(s).Kind = id() }, func(s *api.State) { one(s).Num = pick(r, numbers()...) }, func(s *api.State) { one(s).Stamp = pick(r, numbers()...) },
		func(s *api.State) { one(s).Ver = api.Ver{R: pick(r, numbers()...), C: pick(r, numbers()...)} }, func(s *api.State) { one(s).At = pick(r, places...) }, func(s *api.State) { one(s).Dead = true }, func(s *api.State) { *one(s) = api.Item{} },
	}
}

// TestAnyState asks states that may not be: of these nothing is said, but that no call panics, and what is handed in stays: P1, R2, R4.
func TestAnyState(t *testing.T) {
	r := rand.New(rand.NewSource(3))
	for range 4000 {
		was := pick(r, base(), filled(r.Intn(60), r.Intn(9)), empty(1+r.Intn(8), star))
		for range 1 + r.Intn(3) {
			pick(r, changes(r)...)(&was)
		}
		wasAsked := shaken(r, was)
		s, m := copyOf(was), copyOf(wasAsked)
		overwrite(serve.Answer(s, m, pick(r, numbers()...)))
		if !untouched(s, was) || !untouched(m, wasAsked) {
			t.Fatalf("%+v and %+v were changed: %+v, %+v", was, wasAsked, s, m)
		}
	}
}

// TestLong asks states, and by messages, of very many items, pieces and Ids, and very large filters: P1.
func TestLong(t *testing.T) {
	deep, bush := star, star
	for range 1<<16 - 1 {
		deep = not(deep)
	}
	for range 17 {
		bush = and(bush, bush)
	}
	s, m := empty(3, star), asked()
	m.F, m.K.L = star, nil
	var ids []string
	for i := range 26 * 26 * 26 {
		id := name(i/26) + name(i % 26)[1:]
		s.Store = append(s.Store, made(id, i%10, 1+i%8, i, i))
		s.K.L = append(s.K.L, frag(api.Vec{i, 3}, id, id+"b"))
		ids = append(ids, id)
	}
	m.K.L = []api.Frag{frag(api.Vec{0, 500}, ids[:900]...)}
	for _, f := range []api.Pred{star, deep, bush, or(slices.Repeat([]api.Pred{star}, 1<<18)...)} {
		s.F = f
		m.F = star
		if got := serve.Answer(s, m, 2); len(got) == 0 {
			t.Errorf("%+v isn't answered", m.Kind)
		}
		m.F = f
		checkLarge(t, m, f.Op == api.Star)
	}
	m.F = star
	m.K.L = []api.Frag{frag(api.Vec{0, 500}, ids...)}
	checkLarge(t, m, true)
	m.K.L = slices.Clone(s.K.L)
	checkLarge(t, m, false)
	m.K.L = nil
	for _, id := range ids {
		m.Have = append(m.Have, has(id, 1, 1, 1))
	}
	checkLarge(t, m, false)
}

// checkLarge asks whether m, which is large, may be, and is answered by base.
func checkLarge(t *testing.T, m api.Msg, want bool) {
	t.Helper()
	if serve.May(m) != want || len(serve.Answer(base(), m, 1)) > 0 != want {
		t.Errorf("a message of %d pieces, and %d Haves: want %v", len(m.K.L), len(m.Have), want)
	}
}
