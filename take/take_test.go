package take_test

import (
	"math"
	"math/rand"
	"reflect"
	"slices"
	"testing"

	"gallipot/api"
	"gallipot/ask"
	"gallipot/know"
	"gallipot/local"
	"gallipot/recv"
	"gallipot/serve"
	"gallipot/take"
)

var (
	star = api.Pred{Op: api.Star}
	none = api.Pred{Op: api.None}
)

func and(kids ...api.Pred) api.Pred { return api.Pred{Op: api.And, Kids: kids} }
func or(kids ...api.Pred) api.Pred  { return api.Pred{Op: api.Or, Kids: kids} }
func not(kids ...api.Pred) api.Pred { return api.Pred{Op: api.Not, Kids: kids} }
func less(n int) api.Pred           { return api.Pred{Op: api.Less, N: n} }
func more(n int) api.Pred           { return api.Pred{Op: api.More, N: n} }
func kind(s string) api.Pred        { return api.Pred{Op: api.Kind, Text: s} }

// below9 has what Less 9 has, and has Kids of Kids, so that much of it lies in memory of its own.
func below9() api.Pred { return or(less(9), and(kind("pot"), none), not(star)) }

// made is the item of that Id and number, in the version of that replica and count.
func made(id string, num, r, c, stamp int) api.Item {
	return api.Item{Id: id, Ver: api.Ver{R: r, C: c}, Stamp: stamp, Kind: "pot", Num: num, At: 3 - 4i}
}

// dead is x, but Dead.
func dead(x api.Item) api.Item {
	x.Dead = true
	return x
}

// frag is a piece of those counts and Ids.
func frag(v api.Vec, ids ...string) api.Frag { return api.Frag{Ids: ids, Vec: v} }

// is is the entry of that item.
func is(x api.Item) api.Entry { return api.Entry{Item: x} }

// goes is the entry by which that version is to go, as new came behind it.
func goes(id string, r, c int, new api.Ver) api.Entry {
	return api.Entry{Item: api.Item{Id: id, Ver: api.Ver{R: r, C: c}}, Goes: true, New: new}
}

// base is a state that may be: a, c and e in Store, b and d in Out, c and d Dead; it knows versions of f, g and h, too.
func base() api.State {
	return api.State{
		R: 3, F: below9(),
		Store: []api.Item{made("a", 3, 2, 5, 6), dead(made("c", 4, 1, 2, 4)), made("e", 8, 3, 1, 3)},
		Out:   []api.Item{made("b", 9, 3, 2, 2), dead(made("d", 12, 2, 7, 9))},
		K: api.Know{Star: api.Vec{1, 0, 1}, L: []api.Frag{
			frag(api.Vec{0, 5}, "a"), frag(api.Vec{0, 0, 2}, "b"), frag(api.Vec{2}, "c"), frag(api.Vec{0, 7}, "d", "f", "g", "h"),
		}},
		Count: 4, Clock: 9, Epoch: 4,
	}
}

// opened is a session of base with replica 5, to which nothing came.
func opened() ask.Sess { return ask.Sess{Sid: 21, With: 5, Epoch: 4} }

// running is one to which two batches and a Done of four came, in turn 6.
func running() ask.Sess {
	x := opened()
	x.Turn, x.Got, x.Told, x.N = 6, []int{0, 2}, true, 4
	x.K = api.Know{Star: api.Vec{0, 6, 4}, L: []api.Frag{frag(api.Vec{0, 0, 0, 0, 8}, "a", "k", "z"), frag(api.Vec{3}, "c")}}
	x.L = []api.Entry{goes("a", 2, 5, api.Ver{}), goes("e", 3, 1, api.Ver{R: 5, C: 9}), goes("q", 1, 1, api.Ver{R: 5, C: 2})}
	return x
}

// over is one that is over.
func over() ask.Sess {
	x := running()
	x.Got, x.Over = []int{0, 1, 2, 3}, true
	return x
}

// batch is one of these.
func batch(n int, l ...api.Entry) api.Msg {
	return api.Msg{Kind: api.Batch, From: 5, To: 3, Sid: 21, Turn: 6, N: n, L: l}
}

// done is the end of one of these.
func done(n int, k api.Know, l ...api.Entry) api.Msg {
	return api.Msg{Kind: api.Done, From: 5, To: 3, Sid: 21, Turn: 6, N: n, K: k, L: l}
}

// name is an Id, of each i below 676 another one; they rise.
func name(i int) string { return string([]byte{byte('a' + i/26), byte('a' + i%26)}) }

// filled is a state with so many items in Store, and so many in Out; it may be, if there are at most 40 of them.
func filled(store, out int) api.State {
	s := api.State{R: 3, F: less(5), Count: 4, Epoch: 4}
	for i := range store + out {
		x := made(name(i), i%5, 4, i+1, i+1)
		x.Dead = i%5 == 0
		// Some of Out stand ahead of those of Store, and some behind.
		if i >= out/2 && i < out/2+store {
			s.Store = append(s.Store, x)
		} else {
			x.Num = 5
			s.Out = append(s.Out, x)
		}
	}
	s.Clock, s.K.Star[3] = store+out, store+out
	return s
}

// leaving are so many entries that go.
func leaving(n int) []api.Entry {
	var l []api.Entry
	for i := range n {
		l = append(l, goes(name(i), 1+i%8, 1+i, api.Ver{R: i % 9, C: i % 7}))
	}
	return l
}

// upTo are the numbers from 0 to n less 1.
func upTo(n int) []int {
	var l []int
	for i := range n {
		l = append(l, i)
	}
	return l
}

// filters may be.
func filters() []api.Pred {
	return []api.Pred{
		star, none, kind(""), kind("pot"), {Op: api.Prefix, Text: "a"}, {Op: api.Prefix}, less(5), more(5), less(-1000000), more(1000000), {Op: api.Near, At: 3 - 4i, N: 0}, {Op: api.Near, At: -1000i, N: 8000000},
		and(), or(), and(star), or(less(5), kind("cup")), not(less(5)), not(not(star)), below9(), or(slices.Repeat([]api.Pred{kind("pot")}, 29)...), not(not(not(not(not(star))))), or(and(less(5), or(star)), and(not(below9()))),
	}
}

// oddFilters may not be.
func oddFilters() []api.Pred {
	return []api.Pred{
		{}, {Op: -1}, {Op: 11}, {Op: math.MaxInt, Text: "A", N: math.MinInt, At: 9, Kids: []api.Pred{star}}, not(), not(star, star), not(not()), kind("A"), kind("abcdefghi"), less(1000001), less(-1000001), {Op: api.Star, Text: "a"}, {Op: api.Star, N: 1}, {Op: api.Star, Kids: []api.Pred{{}, star}}, and(api.Pred{}, or(api.Pred{Op: 99})),
		{Op: api.Near, At: complex(math.NaN(), math.Inf(-1)), N: -1}, {Op: api.Near, N: 8000001}, {Op: api.Near, At: 1001}, or(slices.Repeat([]api.Pred{kind("pot")}, 30)...), not(not(not(not(not(not(star)))))), and(below9(), not(api.Pred{Op: 11})),
	}
}

// knowns may be.
func knowns() []api.Know {
	return []api.Know{
		{}, {Star: api.Vec{1, 2, 3, 4, 5, 6, 7, 8}}, {Star: api.Vec{1000, 7: 1000}}, {L: []api.Frag{frag(api.Vec{7: 1}, "a")}}, {L: []api.Frag{frag(api.Vec{1, 2}, "a", "b", "c", "zzzzzzzz")}}, {L: []api.Frag{frag(api.Vec{1000}, "a")}},
		{Star: api.Vec{0, 2}, L: []api.Frag{frag(api.Vec{1}, "a", "d"), frag(api.Vec{0, 3}, "b", "e", "g"), frag(api.Vec{4, 5, 6}, "c")}}, base().K, running().K,
	}
}

// oddKnowns may not be.
func oddKnowns() []api.Know {
	return []api.Know{
		{Star: api.Vec{-1}}, {Star: api.Vec{7: 1001}}, {L: []api.Frag{{}}}, {L: []api.Frag{{}, {}, {Ids: []string{}}}}, {L: []api.Frag{frag(api.Vec{1})}}, {L: []api.Frag{frag(api.Vec{1}, "b", "a")}}, {L: []api.Frag{frag(api.Vec{1}, "a", "a")}}, {L: []api.Frag{frag(api.Vec{1}, "A")}}, {L: []api.Frag{frag(api.Vec{1}, "")}}, {L: []api.Frag{frag(api.Vec{1001}, "a")}}, {L: []api.Frag{frag(api.Vec{1, -1}, "a")}},
		{Star: api.Vec{3}, L: []api.Frag{frag(api.Vec{3}, "a")}}, {L: []api.Frag{frag(api.Vec{2}, "b"), frag(api.Vec{1}, "a")}}, {L: []api.Frag{frag(api.Vec{2}, "a"), frag(api.Vec{2}, "b")}}, {L: []api.Frag{frag(api.Vec{2}, "a"), frag(api.Vec{}, "c")}}, {L: []api.Frag{frag(api.Vec{math.MaxInt, math.MinInt}, "a", "\xff\x00")}},
	}
}

// numbers are of any replica, count, or session, or of none.
func numbers() []int {
	return []int{math.MinInt, math.MinInt + 1, -1 << 32, -3, -1, 0, 1, 2, 3, 4, 5, 8, 9, 40, 41, 1000, 1001, 999999, 1000000, 1000001, 1 << 32, math.MaxInt - 1, math.MaxInt}
}

// oddTexts may not be Ids.
func oddTexts() []string {
	return []string{"", "A", "Z", "`", "{", "a b", "aB", "a1", "a\x00", "ä", "\xff", "abcdefghi", "abcdefgh\x00"}
}

// refused tells the error that Msg is to tell, sentence by sentence.
func refused(s api.State, x ask.Sess, m api.Msg) error {
	if m.Kind != 2 && m.Kind != 3 || m.From != x.With || m.To != s.R || m.Sid != x.Sid || m.Turn < 1 || x.Turn != 0 && m.Turn != x.Turn {
		return api.ErrArg
	}
	if x.Over || x.Epoch != s.Epoch {
		return api.ErrOld
	}
	if m.N < 0 || m.N > 40 || m.Kind == 2 && len(m.L) > 4 || m.Kind == 3 && len(m.L) > 40 {
		return api.ErrArg
	}
	if m.Kind == 2 {
		return nil
	}
	for _, e := range m.L {
		if !e.Goes {
			return api.ErrArg
		}
	}
	if !mayTell(s, m.K) {
		return api.ErrArg
	}
	return nil
}

// mayTell tells whether a Done may tell s that k is known.
func mayTell(s api.State, k api.Know) bool {
	counts := []int{k.Star[s.R-1]}
	for _, f := range k.L {
		counts = append(counts, f.Vec[s.R-1])
	}
	return know.May(k) && slices.Max(counts) <= s.Count
}

// wanted tells what Msg is to tell, sentence by sentence; s and x may be.
func wanted(s api.State, x ask.Sess, m api.Msg) (api.State, ask.Sess, error) {
	if err := refused(s, x, m); err != nil {
		return s, x, err
	}
	x.Turn = m.Turn
	if m.Kind == 2 {
		for _, e := range m.L {
			if e.Goes {
				s = recv.Goes(s, e.Item.Id, e.Item.Ver, e.New)
			} else if then, err := recv.Item(s, e.Item); err == nil {
				s = then
			} else {
				x.Bad = true
			}
		}
		if !slices.Contains(x.Got, m.N) {
			x.Got = append(slices.Clone(x.Got), m.N)
			slices.Sort(x.Got)
		}
	}
	if m.Kind == 3 && !x.Told {
		x.N, x.K, x.L, x.Told = m.N, m.K, m.L, true
	}
	for n := range x.N {
		if !slices.Contains(x.Got, n) {
			return s, x, nil
		}
	}
	if x.Told && !x.Bad {
		for _, e := range x.L {
			s = recv.Goes(s, e.Item.Id, e.Item.Ver, e.New)
		}
		s.K = know.Join(s.K, x.K)
		x.Over = true
	}
	return s, x, nil
}

// mayBe tells whether Got of x rises, from 0 to 40.
func mayBe(x ask.Sess) bool {
	for i, n := range x.Got {
		if n < 0 || n > 40 || i > 0 && n <= x.Got[i-1] {
			return false
		}
	}
	return true
}

// told is all that Msg told.
type told struct {
	S   api.State
	X   ask.Sess
	Err api.Code
}

// msg tells what Msg tells.
func msg(t *testing.T, s api.State, x ask.Sess, m api.Msg) told {
	t.Helper()
	s, x, err := take.Msg(s, x, m)
	return told{s, x, code(t, err)}
}

// code is the number of err, which is api's own; 0 if there is none.
func code(t *testing.T, err error) api.Code {
	t.Helper()
	c, is := err.(api.Code)
	if err != nil && (!is || c == 0) {
		t.Fatalf("the error %#v", err)
	}
	return c
}

// roomy is v in memory of its own, with room behind all its lists, in which something stands.
func roomy(v reflect.Value) reflect.Value {
	w := reflect.New(v.Type()).Elem()
	switch v.Kind() {
	case reflect.Struct:
		for i := range v.NumField() {
			w.Field(i).Set(roomy(v.Field(i)))
		}
	case reflect.Slice:
		w.Set(reflect.MakeSlice(v.Type(), v.Len()+3, v.Len()+3))
		for i := range w.Len() {
			if i < v.Len() {
				w.Index(i).Set(roomy(v.Index(i)))
			} else {
				scribble(w.Index(i))
			}
		}
		w.SetLen(v.Len())
	default:
		w.Set(v)
	}
	return w
}

// copyOf is v in memory of its own, with room behind all its lists.
func copyOf[T any](v T) T { return roomy(reflect.ValueOf(v)).Interface().(T) }

// scribble writes over all of v, what stands behind its lists, too.
func scribble(v reflect.Value) {
	switch v.Kind() {
	case reflect.Struct:
		for i := range v.NumField() {
			scribble(v.Field(i))
		}
	case reflect.Slice:
		for i := range v.Cap() {
			scribble(v.Slice(0, v.Cap()).Index(i))
		}
	case reflect.Array:
		for i := range v.Len() {
			scribble(v.Index(i))
		}
	case reflect.Int:
		v.SetInt(99)
	case reflect.String:
		v.SetString("over")
	case reflect.Complex128:
		v.SetComplex(99)
	case reflect.Bool:
		v.SetBool(true)
	}
}

// overwrite writes over all that v has.
func overwrite[T any](v T) { scribble(reflect.ValueOf(&v).Elem()) }

// places puts where each element of each list of v stands, behind their lengths, too, behind l.
func places(l []uintptr, v reflect.Value) []uintptr {
	switch v.Kind() {
	case reflect.Struct:
		for i := range v.NumField() {
			l = places(l, v.Field(i))
		}
	case reflect.Slice:
		v = v.Slice(0, v.Cap())
		for i := range v.Len() {
			l = places(append(l, v.Index(i).Addr().Pointer()), v.Index(i))
		}
	}
	return l
}

// alikeValues tells whether both are written alike, with what stands behind their lists, if behind asks for it: nil and empty are one, no number is like itself, and -0 isn't 0.
func alikeValues(a, b reflect.Value, behind bool) bool {
	switch a.Kind() {
	case reflect.Struct:
		for i := range a.NumField() {
			if !alikeValues(a.Field(i), b.Field(i), behind) {
				return false
			}
		}
		return true
	case reflect.Slice:
		if a.Len() != b.Len() || behind && a.Cap() != b.Cap() {
			return false
		}
		if behind {
			a, b = a.Slice(0, a.Cap()), b.Slice(0, b.Cap())
		}
		for i := range a.Len() {
			if !alikeValues(a.Index(i), b.Index(i), behind) {
				return false
			}
		}
		return true
	case reflect.Complex128:
		bits := func(c complex128) [2]uint64 { return [2]uint64{math.Float64bits(real(c)), math.Float64bits(imag(c))} }
		return bits(a.Complex()) == bits(b.Complex())
	}
	return a.Interface() == b.Interface()
}

// alike tells whether both are written alike.
func alike[T any](a, b T) bool { return alikeValues(reflect.ValueOf(a), reflect.ValueOf(b), false) }

// untouched tells whether v is what copyOf told of was, behind all its lists, too.
func untouched[T any](v, was T) bool {
	return alikeValues(reflect.ValueOf(v), reflect.ValueOf(copyOf(was)), true)
}

// checkIs asks for what is told, and that it is new memory: P13.1, P13.2, R2, R3.
func checkIs(t *testing.T, wasS api.State, wasX ask.Sess, wasM api.Msg, want told) {
	t.Helper()
	s, x, m := copyOf(wasS), copyOf(wasX), copyOf(wasM)
	got := msg(t, s, x, m)
	if !alike(got, want) {
		t.Fatalf("Msg(%+v, %+v, %+v) =\n%+v, want\n%+v", wasS, wasX, wasM, got, want)
	}
	if !untouched(s, wasS) || !untouched(x, wasX) || !untouched(m, wasM) {
		t.Fatalf("Msg(%+v, %+v, %+v) changed them: %+v, %+v, %+v", wasS, wasX, wasM, s, x, m)
	}
	taken := map[uintptr]bool{}
	l := places(places(places(nil, reflect.ValueOf(s)), reflect.ValueOf(x)), reflect.ValueOf(m))
	for _, p := range places(l, reflect.ValueOf(got)) {
		if taken[p] {
			t.Fatalf("of %+v, %+v and %+v came %+v, of which two lists, or one and one that was handed in, share memory", wasS, wasX, wasM, got)
		}
		taken[p] = true
	}
	want = copyOf(want)
	overwrite(s)
	overwrite(x)
	if overwrite(m); !alike(got, want) {
		t.Fatalf("of %+v, %+v and %+v came %+v, and %+v once they are written over", wasS, wasX, wasM, want, got)
	}
	checkOthers(t, wasS, wasX, wasM, want)
}

// checkOthers asks that, where the state, or the session, that was told is written over, the other one and what was handed in stay: P13.2.
func checkOthers(t *testing.T, wasS api.State, wasX ask.Sess, wasM api.Msg, want told) {
	t.Helper()
	s, x, m := copyOf(wasS), copyOf(wasX), copyOf(wasM)
	got := msg(t, s, x, m)
	if overwrite(got.S); !alike(got.X, want.X) {
		t.Fatalf("the session %+v, once the state is written over", got.X)
	}
	// Nothing is kept, so that the same is told once more.
	next := msg(t, s, x, m)
	if overwrite(next.X); !alike(next.S, want.S) {
		t.Fatalf("the state %+v, once the session is written over", next.S)
	}
	overwrite(got.X)
	if overwrite(next.S); !untouched(s, wasS) || !untouched(x, wasX) || !untouched(m, wasM) {
		t.Fatalf("%+v, %+v, %+v once what came of them is written over", s, x, m)
	}
	if next = msg(t, s, x, m); !alike(next, want) {
		t.Fatalf("Msg(%+v, %+v, %+v) the third time = %+v", wasS, wasX, wasM, next)
	}
}

// check asks of a state and a session that may be for what the chapter's sentences say, that it is new memory, and that both may be then: P13.1 to P13.3.
func check(t *testing.T, s api.State, x ask.Sess, m api.Msg) told {
	t.Helper()
	if !local.May(s) || !mayBe(x) {
		t.Fatalf("%+v, %+v may not be", s, x)
	}
	then, next, err := wanted(copyOf(s), copyOf(x), copyOf(m))
	want := told{then, next, code(t, err)}
	if checkIs(t, s, x, m, want); want.Err != 0 && !alike(want, told{s, x, want.Err}) {
		t.Fatalf("with an error %+v, %+v became %+v", s, x, want)
	}
	// Where no message could have told x what it knows, a state that joins it need not be one that may be.
	if !mayBe(want.X) || !local.May(want.S) && (!x.Told || mayTell(s, x.K)) {
		t.Fatalf("of %+v, %+v and %+v came %+v, which may not be", s, x, m, want)
	}
	return want
}

// checkErr asks for an error, and that all is as it was handed in, or for none: P13.1, P13.2.
func checkErr(t *testing.T, s api.State, x ask.Sess, m api.Msg, want api.Code) {
	t.Helper()
	if got := check(t, s, x, m); got.Err != want {
		t.Errorf("Msg(%+v, %+v, %+v) = %v, want %v", s, x, m, got.Err, want)
	}
}

// sessions are all sorts of sessions of base that aren't over.
func sessions() []ask.Sess {
	some, bad, bare := opened(), running(), opened()
	some.Turn, some.Got = 6, []int{1, 3}
	bad.Bad = true
	bare.Turn, bare.Told = 6, true
	return []ask.Sess{opened(), some, running(), bad, bare}
}

// messages are of all these.
func messages() []api.Msg {
	return []api.Msg{
		batch(0), batch(1, is(made("f", 3, 6, 1, 12)), goes("a", 2, 5, api.Ver{R: 6, C: 3})), batch(3, api.Entry{}), done(0, api.Know{}), done(2, running().K, running().L...),
	}
}

// TestOf tries messages that are of a session, and that aren't: each part by itself.
func TestOf(t *testing.T) { // P13.1
	for _, x := range sessions() {
		for _, was := range messages() {
			was.Turn = max(x.Turn, 1)
			checkErr(t, base(), x, was, 0)
			for _, n := range append(numbers(), 6, 7, 20, 21, 22) {
				m := was
				m.Kind = n
				if got := check(t, base(), x, m).Err; n != 2 && n != 3 && got != api.ErrArg {
					t.Errorf("of Kind %d: %v", n, got)
				}
				m = was
				m.From = n
				checkErr(t, base(), x, m, arg(n != 5))
				m = was
				m.To = n
				checkErr(t, base(), x, m, arg(n != 3))
				m = was
				m.Sid = n
				checkErr(t, base(), x, m, arg(n != 21))
			}
		}
	}
	for _, v := range []struct {
		kind int
		want api.Code
	}{{0, api.ErrArg}, {api.Ask, api.ErrArg}, {api.Batch, 0}, {api.Done, 0}, {api.Ack, api.ErrArg}, {5, api.ErrArg}} {
		m := batch(0)
		m.Kind = v.kind
		checkErr(t, base(), opened(), m, v.want)
	}
}

// arg is ErrArg, if odd, else no error.
func arg(odd bool) api.Code {
	if odd {
		return api.ErrArg
	}
	return 0
}

// TestOther tries messages between all replicas, in sessions of any number.
func TestOther(t *testing.T) { // P13.1
	for r := 1; r <= 8; r++ {
		for with := range 10 {
			for _, sid := range []int{-1, 0, 1, 21, 1000000, math.MaxInt} {
				s, x := base(), opened()
				s.R, s.Count, x.With, x.Sid = r, 9, with, sid
				m := done(0, api.Know{})
				m.From, m.To, m.Sid = with, r, sid
				if got := check(t, s, x, m); got.Err != 0 || !got.X.Over {
					t.Errorf("of %+v came %+v", x, got)
				}
				m.From, m.To = m.To, m.From
				checkErr(t, s, x, m, arg(with != r))
			}
		}
	}
}

// TestTurn tries Turns of messages, in sessions of no Turn, of that one, and of others, and asks that it is the message's then.
func TestTurn(t *testing.T) { // P13.1
	for _, n := range append(numbers(), 6, 7) {
		for _, k := range append(numbers(), n, 6, 7) {
			for _, m := range []api.Msg{messages()[1], messages()[4]} {
				x := opened()
				x.Turn, m.Turn = n, k
				got := check(t, base(), x, m)
				if odd := k < 1 || n != 0 && n != k; got.Err != arg(odd) || !odd && got.X.Turn != k {
					t.Errorf("in turn %d a message of turn %d: %+v", n, k, got)
				}
			}
		}
	}
	// What comes behind the first one is of its turn.
	one := check(t, base(), opened(), batch(1))
	two := check(t, one.S, one.X, batch(0))
	if one.X.Turn != 6 || two.X.Turn != 6 || two.Err != 0 {
		t.Errorf("%+v, %+v", one, two)
	}
	for _, turn := range []int{0, 5, 7} {
		for _, m := range []api.Msg{batch(2), batch(0), done(2, api.Know{})} {
			m.Turn = turn
			checkErr(t, one.S, one.X, m, api.ErrArg)
			checkErr(t, two.S, two.X, m, api.ErrArg)
		}
	}
}

// TestFirstError tries two and three errors at once.
func TestFirstError(t *testing.T) { // P13.1, P13.2, R1
	strange, odd, late := func(m *api.Msg) { m.Sid = 22 }, func(m *api.Msg) { m.N = 41 }, func(x *ask.Sess) { x.Epoch = 5 }
	for _, was := range messages() {
		for i := range 16 {
			m, x := was, running()
			if i&1 > 0 {
				strange(&m)
			}
			if i&2 > 0 {
				x.Over = true
			}
			if i&4 > 0 {
				late(&x)
			}
			if i&8 > 0 {
				odd(&m)
			}
			want := api.ErrArg
			switch {
			case i == 0:
				want = 0
			case i&1 == 0 && i&6 > 0:
				want = api.ErrOld
			}
			checkErr(t, base(), x, m, want)
		}
	}
	// Whatever is odd of what is of a session that is over, it is over.
	for _, m := range []api.Msg{
		batch(-1), batch(0, leaving(5)...), done(-1, api.Know{}), done(41, api.Know{}), done(0, api.Know{}, leaving(41)...), done(0, api.Know{}, api.Entry{}), done(0, api.Know{Star: api.Vec{-1}}), done(0, api.Know{Star: api.Vec{0, 0, 5}}),
	} {
		checkErr(t, base(), running(), m, api.ErrArg)
		checkErr(t, base(), over(), m, api.ErrOld)
		x := running()
		x.Epoch = 3
		checkErr(t, base(), x, m, api.ErrOld)
		m.From = 6
		checkErr(t, base(), x, m, api.ErrArg)
		checkErr(t, base(), over(), m, api.ErrArg)
	}
}

// TestOld tries sessions that are over, and Epochs.
func TestOld(t *testing.T) { // P13.1
	for _, was := range sessions() {
		for _, m := range messages() {
			for _, n := range append(numbers(), 4, 5) {
				x := was
				x.Epoch = n
				want := api.ErrOld
				if n == 4 {
					want = 0
				}
				checkErr(t, base(), x, m, want)
				s, x := base(), was
				if s.Epoch = n; n >= 0 && n <= 1000000 {
					checkErr(t, s, x, m, want)
				}
			}
			x := was
			x.Over = true
			checkErr(t, base(), x, m, api.ErrOld)
		}
	}
	s, x := base(), opened()
	s.Epoch, x.Epoch = 0, 0
	checkErr(t, s, x, batch(0), 0)
	s.Epoch, x.Epoch = 1000000, 1000000
	checkErr(t, s, x, batch(0), 0)
}

// TestNumber tries numbers of batches.
func TestNumber(t *testing.T) { // P13.1
	for _, x := range sessions() {
		for _, was := range messages() {
			for _, n := range append(numbers(), 39, 42) {
				m := was
				m.N = n
				checkErr(t, base(), x, m, arg(n < 0 || n > 40))
			}
		}
	}
}

// TestLengths tries how many entries come.
func TestLengths(t *testing.T) { // P13.1
	for _, x := range sessions() {
		for n := range 44 {
			checkErr(t, base(), x, batch(0, leaving(n)...), arg(n > 4))
			checkErr(t, base(), x, batch(0, slices.Repeat([]api.Entry{{}}, n)...), arg(n > 4))
			checkErr(t, base(), x, done(0, api.Know{}, leaving(n)...), arg(n > 40))
		}
		checkErr(t, base(), x, batch(0, leaving(400)...), api.ErrArg)
		checkErr(t, base(), x, done(0, api.Know{}, leaving(400)...), api.ErrArg)
	}
}

// TestStays tries Dones with an entry that doesn't go, at each place.
func TestStays(t *testing.T) { // P13.1
	for _, x := range sessions() {
		for _, n := range []int{1, 2, 3, 40} {
			for i := range n {
				l := leaving(n)
				l[i].Goes = false
				checkErr(t, base(), x, done(0, api.Know{}, l...), api.ErrArg)
				l[i] = is(made("f", 3, 6, 1, 12))
				checkErr(t, base(), x, done(0, api.Know{}, l...), api.ErrArg)
			}
			checkErr(t, base(), x, done(0, api.Know{}, slices.Repeat([]api.Entry{{}}, n)...), api.ErrArg)
			// Whatever the entry is, it may go.
			checkErr(t, base(), x, done(0, api.Know{}, slices.Repeat([]api.Entry{{Goes: true}}, n)...), 0)
		}
	}
}

// TestKnown tries what a Done tells is known: what may not be, and the counts of the replica itself.
func TestKnown(t *testing.T) { // P13.1
	for _, x := range sessions() {
		for _, k := range oddKnowns() {
			checkErr(t, base(), x, done(0, k), api.ErrArg)
		}
	}
	for r := 1; r <= 8; r++ {
		for _, count := range []int{9, 1000} {
			s, x := base(), sessions()[r%3]
			s.R, s.Count = r, count
			for _, n := range []int{1, count - 1, count, count + 1, 1000} {
				for _, own := range []int{r, r%8 + 1, (r+4)%8 + 1} {
					want := arg(n > 1000 || own == r && n > count)
					for _, k := range knowing(own, n) {
						m := done(3, k)
						m.To = r
						checkErr(t, s, x, m, want)
					}
				}
			}
		}
	}
	// Others' counts are no matter of a Batch.
	m := batch(0)
	m.K = api.Know{Star: api.Vec{-1, 0, 1000}, L: []api.Frag{{}}}
	checkErr(t, base(), opened(), m, 0)
}

// knowing are such that know versions of replica r up to n, by Star, by the only piece, and by one of several.
func knowing(r, n int) []api.Know {
	one, two := api.Vec{}, api.Vec{}
	one[r-1], two[r-1] = n, n
	// Beside it stands what may be, and makes pieces that aren't alike.
	two[r%8] = 2
	other, third := api.Vec{}, api.Vec{}
	other[r%8], third[(r+1)%8] = 3, 4
	return []api.Know{
		{Star: one}, {Star: two}, {L: []api.Frag{frag(one, "a")}}, {L: []api.Frag{frag(two, "k", "q")}}, {Star: other, L: []api.Frag{frag(one, "a", "b")}},
		{L: []api.Frag{frag(one, "a"), frag(other, "b", "d"), frag(third, "c")}}, {L: []api.Frag{frag(other, "a"), frag(two, "b", "d"), frag(third, "c")}}, {L: []api.Frag{frag(other, "a"), frag(third, "b"), frag(one, "c", "d")}},
	}
}

// TestWhole writes out what comes of a batch, of a Done, and of the last batch.
func TestWhole(t *testing.T) { // P13.1
	f, a, e := made("f", 3, 6, 1, 12), made("a", 4, 2, 6, 7), made("e", 9, 6, 3, 3)
	s, x := base(), opened()
	first := batch(2, is(f), is(a), goes("c", 1, 2, api.Ver{R: 6, C: 2}), is(e))
	s.Store, s.Clock = []api.Item{a, f}, 12
	s.K.L = []api.Frag{
		frag(api.Vec{0, 6}, "a"), frag(api.Vec{0, 0, 2}, "b"), frag(api.Vec{2, 0, 0, 0, 0, 2}, "c"), frag(api.Vec{0, 7}, "d", "g", "h"), frag(api.Vec{5: 3}, "e"), frag(api.Vec{0, 7, 0, 0, 0, 1}, "f"),
	}
	x.Turn, x.Got = 6, []int{2}
	checkIs(t, base(), opened(), first, told{s, x, 0})
	check(t, base(), opened(), first)

	then := x
	then.Told, then.N, then.K = true, 3, api.Know{Star: api.Vec{2, 0, 4}, L: []api.Frag{frag(api.Vec{0, 0, 0, 9}, "a", "u")}}
	then.L = []api.Entry{goes("f", 6, 1, api.Ver{}), goes("a", 2, 5, api.Ver{R: 7, C: 7}), goes("v", 1, 1, api.Ver{R: 7, C: 8})}
	checkIs(t, s, x, done(3, then.K, then.L...), told{s, then, 0})
	check(t, s, x, done(3, then.K, then.L...))

	next := then
	next.Got = []int{0, 2}
	checkIs(t, s, then, batch(0), told{s, next, 0})
	check(t, s, then, batch(0))

	last, ends := s, next
	last.Store = []api.Item{a}
	last.K = api.Know{Star: api.Vec{2, 0, 4}, L: []api.Frag{
		frag(api.Vec{0, 6, 0, 9}, "a"), frag(api.Vec{5: 2}, "c"), frag(api.Vec{0, 7}, "d", "g", "h"), frag(api.Vec{5: 3}, "e"), frag(api.Vec{0, 7, 0, 0, 0, 1}, "f"), frag(api.Vec{0, 0, 0, 9}, "u"),
	}}
	ends.Got, ends.Over = []int{0, 1, 2}, true
	checkIs(t, s, next, batch(1), told{last, ends, 0})
	check(t, s, next, batch(1))
	for _, m := range []api.Msg{first, batch(1), batch(3), done(3, then.K, then.L...)} {
		checkIs(t, last, ends, m, told{last, ends, api.ErrOld})
	}
}

// TestNothing asks what comes of a Done of 0, and of a batch of nothing: P13.1.
func TestNothing(t *testing.T) {
	for r := 1; r <= 8; r++ {
		for _, f := range filters() {
			s, err := local.New(r, f)
			x, _ := ask.Open(s, r%8+1, 7)
			if err != nil {
				t.Fatal(err)
			}
			m := api.Msg{Kind: api.Done, From: r%8 + 1, To: r, Sid: 7, Turn: 1}
			ends := x
			ends.Turn, ends.Told, ends.Over = 1, true, true
			checkIs(t, s, x, m, told{s, ends, 0})
			check(t, s, x, m)
			m.Kind = api.Batch
			next := x
			next.Turn, next.Got = 1, []int{0}
			checkIs(t, s, x, m, told{s, next, 0})
			check(t, s, x, m)
		}
	}
}

// odd are items that may not be taken by base: each for another reason.
func odd() []api.Item {
	l := []api.Item{{}, made("", 3, 6, 1, 12), made("F", 3, 6, 1, 12), made("f", 1000001, 6, 1, 12), made("f", 3, 0, 1, 12), made("f", 3, 9, 1, 12), made("f", 3, 6, 0, 12), made("f", 3, 6, 1001, 12), made("f", 3, 6, 1, 0), made("f", 3, 3, 5, 12), made("a", 3, 3, 1000, 12)}
	f := made("f", 3, 6, 1, 12)
	f.Kind = "Pot"
	g := f
	g.Kind, g.At = "", 0.5
	return append(l, f, g)
}

// TestEntries asks what comes of a batch's entries: items by where they stand, and what goes.
func TestEntries(t *testing.T) { // P13.1
	one, was := base(), base()
	for _, v := range []struct {
		e           api.Entry
		store, outs string
		id          string
		ver         api.Ver
		clock       int
		change      bool
	}{
		{is(made("f", 3, 6, 1, 12)), "acef", "bd", "f", api.Ver{R: 6, C: 1}, 12, true}, {is(made("f", 9, 6, 1, 12)), "ace", "bd", "f", api.Ver{R: 6, C: 1}, 12, true}, {is(dead(made("k", 3, 6, 1, 1))), "acek", "bd", "k", api.Ver{R: 6, C: 1}, 9, true},
		{is(made("f", 3, 2, 7, 12)), "ace", "bd", "f", api.Ver{R: 2, C: 7}, 9, false}, {is(made("f", 3, 1, 1, 12)), "ace", "bd", "f", api.Ver{R: 1, C: 1}, 9, false},
		{is(made("a", 3, 2, 6, 7)), "ace", "bd", "a", api.Ver{R: 2, C: 6}, 9, true}, {is(made("a", 9, 2, 6, 10)), "ce", "bd", "a", api.Ver{R: 2, C: 6}, 10, true}, {is(made("a", 3, 6, 4, 5)), "ace", "bd", "a", api.Ver{R: 6, C: 4}, 9, true}, {is(made("a", 3, 1, 9, 6)), "ace", "bd", "a", api.Ver{R: 1, C: 9}, 9, true},
		{is(made("b", 3, 6, 1, 2)), "abce", "d", "b", api.Ver{R: 6, C: 1}, 9, true}, {is(made("b", 9, 6, 1, 2)), "ace", "d", "b", api.Ver{R: 6, C: 1}, 9, true}, {is(made("b", 3, 6, 1, 1)), "ace", "bd", "b", api.Ver{R: 6, C: 1}, 9, true}, {is(made("b", 3, 3, 2, 30)), "ace", "bd", "b", api.Ver{R: 3, C: 2}, 9, false},
		{is(made("z", 3, 3, 4, 11)), "acez", "bd", "z", api.Ver{R: 3, C: 4}, 11, true},
		{goes("a", 2, 5, api.Ver{}), "ce", "bd", "a", api.Ver{R: 2, C: 5}, 9, true}, {goes("a", 2, 5, api.Ver{R: 6, C: 1}), "ce", "bd", "a", api.Ver{R: 6, C: 1}, 9, true}, {goes("a", 2, 5, api.Ver{R: 2, C: 3}), "ce", "bd", "a", api.Ver{R: 2, C: 3}, 9, true}, {goes("e", 3, 1, api.Ver{R: 3, C: 4}), "ac", "bd", "e", api.Ver{R: 3, C: 4}, 9, true},
		{goes("a", 2, 6, api.Ver{R: 2, C: 3}), "ace", "bd", "a", api.Ver{R: 2, C: 5}, 9, false}, {goes("b", 3, 2, api.Ver{R: 2, C: 3}), "ace", "bd", "b", api.Ver{R: 3, C: 2}, 9, false}, {goes("f", 2, 7, api.Ver{R: 2, C: 7}), "ace", "bd", "f", api.Ver{R: 2, C: 7}, 9, false}, {goes("", 0, 0, api.Ver{}), "ace", "bd", "a", api.Ver{R: 2, C: 5}, 9, false},
	} {
		for _, x := range sessions() {
			got := check(t, one, x, batch(4, v.e))
			if ids(got.S.Store) != v.store || ids(got.S.Out) != v.outs || !know.Has(got.S.K, v.id, v.ver) || got.S.Clock != v.clock || alike(got.S, was) == v.change {
				t.Errorf("of %+v came %+v", v.e, got.S)
			}
			if got.X.Bad != x.Bad || !slices.Contains(got.X.Got, 4) {
				t.Errorf("of %+v came %+v", v.e, got.X)
			}
			// A second time it changes nothing: P13.3.
			if again := check(t, got.S, got.X, batch(4, v.e)); !alike(again.S, got.S) || !alike(again.X, got.X) {
				t.Errorf("of %+v came %+v, and the second time %+v", v.e, got, again)
			}
		}
	}
	// What goes, and isn't to be known: no version, or one of its own that it didn't make.
	for _, new := range []api.Ver{{}, {R: 3, C: 5}, {R: 9, C: 1}, {R: 6}, {R: 6, C: 1001}, {R: -1, C: -1}, {R: math.MaxInt, C: 1}} {
		got := check(t, base(), opened(), batch(4, goes("a", 2, 5, new)))
		if ids(got.S.Store) != "ce" || !know.Same(got.S.K, was.K) {
			t.Errorf("with %+v: %+v", new, got.S)
		}
	}
}

// ids are those of l, one behind the other.
func ids(l []api.Item) string {
	all := ""
	for _, x := range l {
		all += x.Id
	}
	return all
}

// TestOrder asks that entries are taken in order.
func TestOrder(t *testing.T) { // P13.1
	a, b, c, late := made("f", 3, 6, 1, 12), made("f", 4, 6, 2, 13), made("f", 2, 6, 3, 14), made("f", 9, 6, 4, 15)
	gone := goes("f", 6, 1, api.Ver{R: 7, C: 7})
	for _, v := range []struct {
		l     []api.Entry
		store []api.Item
		new   bool
	}{
		{[]api.Entry{is(a), is(b), is(c)}, []api.Item{c}, false}, {[]api.Entry{is(c), is(b), is(a)}, []api.Item{c}, false}, {[]api.Entry{is(a), gone}, nil, true}, {[]api.Entry{gone, is(a)}, []api.Item{a}, false}, {[]api.Entry{is(a), gone, is(a)}, nil, true},
		{[]api.Entry{is(a), gone, is(b)}, []api.Item{b}, true}, {[]api.Entry{is(a), is(b), gone}, []api.Item{b}, false}, {[]api.Entry{is(b), gone, is(a)}, []api.Item{b}, false}, {[]api.Entry{is(a), gone, is(late)}, nil, true}, {[]api.Entry{is(late), is(a), gone}, nil, false}, {[]api.Entry{is(a), is(late), gone}, nil, false},
		{[]api.Entry{is(a), goes("f", 6, 1, api.Ver{R: 8, C: 8}), gone}, nil, false}, {[]api.Entry{is(a), gone, goes("f", 6, 1, api.Ver{R: 8, C: 8})}, nil, true}, {[]api.Entry{is(a), gone, is(b), goes("f", 6, 2, api.Ver{R: 8, C: 8})}, nil, true},
	} {
		s := api.State{R: 3, F: less(9), Clock: 3, Epoch: 4}
		got := check(t, s, opened(), batch(1, v.l...))
		if !alike(got.S.Store, v.store) || know.Has(got.S.K, "f", api.Ver{R: 7, C: 7}) != v.new || got.X.Bad {
			t.Errorf("of %+v came %+v", v.l, got)
		}
	}
}

// TestBad asks that an item that is an error leaves the state as it was ahead of it, while those beside it are taken.
func TestBad(t *testing.T) { // P13.1
	f, g, h := made("fa", 3, 6, 1, 12), made("ga", 3, 6, 2, 13), goes("a", 2, 5, api.Ver{R: 6, C: 3})
	for _, x := range sessions() {
		want := check(t, base(), x, batch(4, is(f), is(g), h))
		for _, o := range odd() {
			alone := check(t, base(), x, batch(4, is(o)))
			if !alike(alone.S, base()) || !alone.X.Bad || !slices.Contains(alone.X.Got, 4) || alone.Err != 0 {
				t.Errorf("of %+v came %+v", o, alone)
			}
			for i := range 4 {
				got := check(t, base(), x, batch(4, slices.Insert([]api.Entry{is(f), is(g), h}, i, is(o))...))
				if !got.X.Bad || !alike(got.S, want.S) || !alike(got.X.Got, want.X.Got) {
					t.Errorf("%+v at place %d: %+v", o, i, got)
				}
			}
			all := check(t, base(), x, batch(4, is(o), is(o), is(o), is(o)))
			if !alike(all, alone) {
				t.Errorf("four of %+v: %+v", o, all)
			}
			// Bad it is, whatever comes.
			got := check(t, alone.S, alone.X, batch(5, is(f), h))
			got = check(t, got.S, got.X, done(0, api.Know{}))
			if got = check(t, got.S, got.X, batch(0)); !got.X.Bad || !got.X.Told || got.X.Over {
				t.Errorf("behind %+v: %+v", o, got.X)
			}
		}
		// What goes and may not be is no error.
		got := check(t, base(), x, batch(4, goes("A", -3, 9999, api.Ver{R: -1}), api.Entry{Goes: true}))
		if got.X.Bad != x.Bad || !alike(got.S, base()) {
			t.Errorf("%+v", got)
		}
	}
}

// TestRoom asks what comes of items that there is no room for.
func TestRoom(t *testing.T) { // P13.1
	f, g := made("y", 3, 6, 1, 90), made("z", 4, 6, 2, 91)
	for _, v := range []struct {
		store, out int
		l          []api.Entry
		want       string
		bad        bool
	}{
		{38, 0, []api.Entry{is(f), is(g)}, "yz", false}, {37, 1, []api.Entry{is(g), is(f)}, "yz", false}, {39, 0, []api.Entry{is(f), is(g)}, "y", true}, {20, 19, []api.Entry{is(g), is(f)}, "z", true}, {40, 0, []api.Entry{is(f), is(g)}, "", true}, {3, 37, []api.Entry{is(f), is(g)}, "", true},
		{40, 0, []api.Entry{is(f), goes("aa", 4, 1, api.Ver{}), is(g)}, "z", true}, {40, 0, []api.Entry{goes("aa", 4, 1, api.Ver{}), is(f), is(g)}, "y", true}, {40, 0, []api.Entry{goes("aa", 4, 1, api.Ver{}), is(f), goes("ab", 4, 2, api.Ver{}), is(g)}, "yz", false},
		{40, 0, []api.Entry{is(f), is(f), goes("ac", 4, 3, api.Ver{}), is(f)}, "y", true}, {40, 0, []api.Entry{is(made("aa", 9, 6, 8, 95)), is(f)}, "y", false}, {40, 0, []api.Entry{is(made("x", 9, 6, 8, 95)), is(made("aa", 2, 6, 9, 95))}, "", false},
	} {
		s := filled(v.store, v.out)
		got := check(t, s, opened(), batch(0, v.l...))
		have := ""
		for _, x := range []api.Item{f, g} {
			if slices.Contains(got.S.Store, x) != know.Has(got.S.K, x.Id, x.Ver) {
				t.Errorf("%+v is known, or stands, alone: %+v", x, got.S)
			}
			if slices.Contains(got.S.Store, x) {
				have += x.Id
			}
		}
		if have != v.want || got.X.Bad != v.bad || !alike(got.X.Got, []int{0}) {
			t.Errorf("of %+v to %d and %d came %q, %+v", v.l, v.store, v.out, have, got.X)
		}
	}
}

// TestGot asks that the numbers of what came rise, in whatever order they come, and however often.
func TestGot(t *testing.T) { // P13.1
	for _, v := range []struct {
		got  []int
		n    int
		want []int
	}{
		{nil, 0, []int{0}}, {nil, 7, []int{7}}, {nil, 40, []int{40}}, {[]int{3}, 0, []int{0, 3}}, {[]int{3}, 3, []int{3}}, {[]int{3}, 4, []int{3, 4}}, {[]int{0}, 40, []int{0, 40}}, {[]int{40}, 0, []int{0, 40}},
		{[]int{1, 5, 9}, 0, []int{0, 1, 5, 9}}, {[]int{1, 5, 9}, 1, []int{1, 5, 9}}, {[]int{1, 5, 9}, 2, []int{1, 2, 5, 9}}, {[]int{1, 5, 9}, 5, []int{1, 5, 9}}, {[]int{1, 5, 9}, 8, []int{1, 5, 8, 9}}, {[]int{1, 5, 9}, 9, []int{1, 5, 9}}, {[]int{1, 5, 9}, 10, []int{1, 5, 9, 10}}, {[]int{0, 1, 2}, 3, []int{0, 1, 2, 3}},
		{upTo(41), 0, upTo(41)}, {upTo(41), 40, upTo(41)}, {upTo(40), 40, upTo(41)}, {upTo(41)[1:], 0, upTo(41)},
	} {
		x := opened()
		x.Got = v.got
		if got := check(t, base(), x, batch(v.n)); !alike(got.X.Got, v.want) || got.X.Over {
			t.Errorf("%v with %d: %+v", v.got, v.n, got.X)
		}
		// A Done is no batch.
		if got := check(t, base(), x, done(v.n, api.Know{})); !alike(got.X.Got, v.got) {
			t.Errorf("%v with a Done of %d: %+v", v.got, v.n, got.X)
		}
	}
	r := rand.New(rand.NewSource(4))
	for range 6 {
		s, x := base(), opened()
		var came []int
		for _, n := range slices.Concat(r.Perm(41), r.Perm(41)) {
			got := check(t, s, x, batch(n))
			s, x, came = got.S, got.X, append(came, n)
			if want := slices.Compact(slices.Sorted(slices.Values(came))); !alike(x.Got, want) || !alike(s, base()) {
				t.Fatalf("behind %v: %+v, %+v", came, s, x)
			}
		}
	}
}

// feed hands messages over, one behind the other, and tells what came of the last one.
func feed(t *testing.T, s api.State, x ask.Sess, l ...api.Msg) told {
	t.Helper()
	got := told{S: s, X: x}
	for _, m := range l {
		if got = check(t, got.S, got.X, m); got.Err != 0 {
			t.Fatalf("%+v is refused: %+v", m, got)
		}
	}
	return got
}

// TestDone asks that the first Done tells, wherever it comes, and no other one.
func TestDone(t *testing.T) { // P13.1
	k := api.Know{Star: api.Vec{3, 9, 4}, L: []api.Frag{frag(api.Vec{7: 5}, "a", "m"), frag(api.Vec{4}, "n")}}
	l := []api.Entry{goes("e", 3, 1, api.Ver{R: 7, C: 2}), goes("m", 1, 1, api.Ver{})}
	one, two := done(3, k, l...), done(0, api.Know{Star: api.Vec{900, 900}}, goes("a", 2, 5, api.Ver{R: 8, C: 1}))
	b := []api.Msg{batch(0, is(made("f", 3, 6, 1, 12))), batch(1, goes("c", 1, 2, api.Ver{})), batch(2)}
	want := base()
	want.Store, want.Clock = []api.Item{base().Store[0], b[0].L[0].Item}, 12
	want.K = api.Know{Star: api.Vec{3, 9, 4}, L: []api.Frag{frag(api.Vec{7: 5}, "a", "m"), frag(api.Vec{6: 2}, "e"), frag(api.Vec{5: 1}, "f"), frag(api.Vec{4}, "n")}}
	for _, turns := range [][]api.Msg{
		{one, b[0], b[1], b[2]}, {b[0], one, b[1], b[2]}, {b[2], b[1], one, b[0]}, {b[0], b[1], b[2], one}, {b[2], b[1], b[0], one},
		{one, two, b[0], b[1], b[2]}, {one, b[0], b[1], two, b[2]}, {one, one, b[1], b[1], b[0], b[2]}, {b[0], b[0], one, two, two, b[2], b[2], b[1]}, {b[1], one, b[2], one, b[0]},
	} {
		for n := range turns {
			// Each Done told, and which batches came, are told on the way.
			got := feed(t, base(), opened(), turns[:n]...)
			dones := slices.ContainsFunc(turns[:n], func(m api.Msg) bool { return m.Kind == api.Done })
			if got.X.Over || got.X.Told != dones || dones && (got.X.N != 3 || !alike(got.X.K, k) || !alike(got.X.L, l)) || !dones && (got.X.N != 0 || !alike(got.X.K, api.Know{}) || len(got.X.L) > 0) {
				t.Errorf("behind %+v: %+v", turns[:n], got.X)
			}
			if slices.ContainsFunc(got.S.K.L, func(f api.Frag) bool { return f.Vec[7] > 0 }) {
				t.Errorf("behind %+v: %+v", turns[:n], got.S.K)
			}
		}
		got := feed(t, base(), opened(), turns...)
		if !got.X.Over || !alike(got.X.Got, []int{0, 1, 2}) || !alike(got.S, want) {
			t.Errorf("behind %+v: %+v", turns, got)
		}
		// It is over, and stays as it is.
		for _, m := range append(turns, two) {
			checkErr(t, got.S, got.X, m, api.ErrOld)
		}
	}
	got := feed(t, base(), opened(), two)
	checkErr(t, got.S, got.X, one, api.ErrOld)
	if want := base(); got.X.N != 0 || !got.X.Over || ids(got.S.Store) != "ce" || !know.Same(got.S.K, know.Join(know.With(want.K, "a", api.Ver{R: 8, C: 1}), two.K)) {
		t.Errorf("%+v", got)
	}
}

// TestTold asks for Dones of all sorts, as they are told, in a session that isn't over then: P13.1.
func TestTold(t *testing.T) {
	for n := range 41 {
		for i, k := range knowns() {
			s := base()
			s.Count = 1000
			m := done(n, k, leaving(n)...)
			got := check(t, s, opened(), m)
			if want := (ask.Sess{Sid: 21, With: 5, Epoch: 4, Turn: 6, Told: true, Over: n == 0, N: n, K: k, L: m.L}); !alike(got.X, want) {
				t.Errorf("of Done of %d, %d came %+v", n, i, got.X)
			}
			if n > 0 && !alike(got.S, s) || n == 0 && !alike(got.S.K, know.Join(s.K, k)) {
				t.Errorf("of Done of %d, %d came %+v", n, i, got.S)
			}
		}
	}
	// What a message has beside what the chapter names is no matter.
	m := done(2, api.Know{})
	m.F, m.Have, m.Star = api.Pred{Op: 77}, []api.Has{{Id: "A"}}, true
	checkErr(t, base(), opened(), m, 0)
	m.Kind = api.Batch
	checkErr(t, base(), opened(), m, 0)
}

// TestOver asks which sessions are over behind a batch, or a Done, and which aren't.
func TestOver(t *testing.T) { // P13.1
	for _, v := range []struct {
		told, bad bool
		n         int
		got       []int
		m         api.Msg
		over      bool
	}{
		{true, false, 3, []int{0, 1}, batch(2), true}, {true, false, 3, []int{0, 2}, batch(1), true}, {true, false, 3, []int{1, 2}, batch(0), true}, {true, false, 3, upTo(3), batch(1), true}, {true, false, 3, upTo(3), batch(3), true}, {true, false, 3, upTo(41), batch(40), true},
		{false, false, 3, []int{0, 1}, batch(2), false}, {false, false, 0, nil, batch(0), false}, {false, false, 0, upTo(40), batch(40), false}, {true, true, 3, []int{0, 1}, batch(2), false}, {true, true, 0, nil, batch(0), false}, {true, true, 3, upTo(41), batch(2), false},
		{true, false, 3, []int{0}, batch(1), false}, {true, false, 3, []int{0}, batch(2), false}, {true, false, 3, []int{1}, batch(2), false}, {true, false, 3, nil, batch(0), false}, {true, false, 1, nil, batch(1), false}, {true, false, 1, nil, batch(0), true}, {true, false, 0, nil, batch(9), true},
		{true, false, 3, upTo(41)[1:], batch(1), false}, {true, false, 3, append(upTo(2), 4, 5, 6), batch(3), false}, {true, false, 3, append(upTo(2), 4, 5, 6), batch(2), true}, {true, false, 3, append(upTo(1), 2, 3, 4), batch(39), false}, {true, false, 3, []int{0, 3, 40}, batch(1), false}, {true, false, 2, []int{0, 3, 40}, batch(1), true},
		{true, false, 40, upTo(39), batch(39), true}, {true, false, 40, upTo(39), batch(40), false}, {true, false, 40, upTo(40), batch(40), true}, {true, false, 40, upTo(41)[1:], batch(40), false}, {true, false, 40, upTo(41)[1:], batch(0), true}, {true, false, 41, upTo(40), batch(40), true}, {true, false, 42, upTo(40), batch(40), false}, {true, false, math.MaxInt, upTo(40), batch(40), false},
		{true, false, -1, nil, batch(40), true}, {true, false, math.MinInt, nil, batch(0), true}, {true, true, -1, nil, batch(40), false},
		// A Done of a session that was told of one may end it, too.
		{true, false, 3, upTo(3), done(9, api.Know{}), true}, {true, false, 3, upTo(2), done(1, api.Know{}), false}, {true, false, 0, nil, done(1, api.Know{}), true}, {true, true, 0, nil, done(0, api.Know{}), false},
		{false, false, 9, upTo(2), done(2, api.Know{}), true}, {false, false, 0, upTo(2), done(3, api.Know{}), false}, {false, false, 0, nil, done(0, api.Know{}), true}, {false, false, 0, []int{1}, done(1, api.Know{}), false}, {false, true, 0, nil, done(0, api.Know{}), false}, {false, false, 0, upTo(40), done(40, api.Know{}), true}, {false, false, 0, upTo(39), done(40, api.Know{}), false}, {false, false, 0, upTo(41), done(40, api.Know{}), true},
	} {
		x := running()
		x.Told, x.Bad, x.N, x.Got = v.told, v.bad, v.n, v.got
		got := check(t, base(), x, v.m)
		if got.X.Over != v.over || got.Err != 0 || got.X.Bad != v.bad {
			t.Errorf("of %+v, by %+v, came %+v", x, v.m, got)
		}
		// What goes goes, and what is known is joined, just when it is over.
		k := got.X.K
		if v.over && !alike(got.S.K, know.Join(know.Join(base().K, k), got.S.K)) || !v.over && !alike(got.S, base()) {
			t.Errorf("of %+v, by %+v, came %+v", x, v.m, got.S)
		}
		if gone := v.over && v.told; (ids(got.S.Store) == "c") != gone || (ids(got.S.Store) == "ace") == gone {
			t.Errorf("of %+v, by %+v, came %+v", x, v.m, got.S.Store)
		}
		if again := check(t, got.S, got.X, v.m); !alike(again.S, got.S) || !alike(again.X, got.X) || again.Err != 0 != v.over {
			t.Errorf("of %+v, by %+v, came %+v, and the second time %+v", x, v.m, got, again)
		}
	}
}

// TestEnds asks what goes in the end, in order, and what is known then.
func TestEnds(t *testing.T) { // P13.1
	first, second := api.Ver{R: 6, C: 1}, api.Ver{R: 7, C: 1}
	for _, v := range []struct {
		l                []api.Entry
		store            string
		first, second, k bool
	}{
		{nil, "ace", false, false, true}, {[]api.Entry{goes("a", 2, 5, first)}, "ce", true, false, true}, {[]api.Entry{goes("a", 2, 5, first), goes("a", 2, 5, second)}, "ce", true, false, true}, {[]api.Entry{goes("a", 2, 5, second), goes("a", 2, 5, first)}, "ce", false, true, true},
		{[]api.Entry{goes("a", 2, 4, first), goes("a", 2, 5, second)}, "ce", false, true, true}, {[]api.Entry{goes("a", 2, 4, first), goes("a", 2, 6, second)}, "ace", false, false, true}, {[]api.Entry{goes("b", 3, 2, first), goes("e", 3, 1, second)}, "ac", false, false, true}, {[]api.Entry{goes("e", 3, 1, second), goes("c", 1, 2, first), goes("a", 2, 5, api.Ver{})}, "", false, false, true},
		{[]api.Entry{goes("z", 2, 5, first), goes("a", 2, 5, api.Ver{R: 3, C: 5}), {}}, "ce", false, false, true},
		// One that was told otherwise goes all the same.
		{[]api.Entry{{Item: api.Item{Id: "a", Ver: api.Ver{R: 2, C: 5}}, New: first}}, "ce", true, false, true},
	} {
		k := api.Know{Star: api.Vec{0, 0, 2}, L: []api.Frag{frag(api.Vec{7: 3}, "a", "y"), frag(api.Vec{0, 0, 4}, "k")}}
		for i, x := range []ask.Sess{opened(), running(), running()} {
			m := batch(0)
			x.Told, x.N, x.K, x.L = true, 1, k, v.l
			if i == 0 {
				m = done(1, k, v.l...)
				x.Told, x.Got = false, []int{0}
			} else if i == 2 {
				x.Got = nil
			}
			if slices.ContainsFunc(v.l, func(e api.Entry) bool { return !e.Goes }) && i == 0 {
				continue
			}
			got := check(t, base(), x, m)
			if !got.X.Over || ids(got.S.Store) != v.store || ids(got.S.Out) != "bd" || got.S.Clock != 9 {
				t.Errorf("of %+v came %+v", v.l, got)
			}
			if know.Has(got.S.K, "a", first) != v.first || know.Has(got.S.K, "a", second) != v.second || !know.Has(got.S.K, "y", api.Ver{R: 8, C: 3}) || got.S.K.Star != (api.Vec{1, 0, 2}) || !know.Has(got.S.K, "k", api.Ver{R: 3, C: 4}) {
				t.Errorf("of %+v came %+v", v.l, got.S.K)
			}
			if !alike(got.X.K, k) || !alike(got.X.L, v.l) {
				t.Errorf("of %+v came %+v", v.l, got.X)
			}
		}
	}
	// All 40 may go.
	s, x := filled(40, 0), opened()
	var l []api.Entry
	for i, y := range s.Store {
		l = append(l, goes(y.Id, y.Ver.R, y.Ver.C, api.Ver{R: 1 + i%8, C: 60 + i}))
	}
	got := check(t, s, x, done(0, api.Know{}, l...))
	for _, e := range l {
		if len(got.S.Store) > 0 || know.Has(got.S.K, e.Item.Id, e.New) != (e.New.R != 3) {
			t.Errorf("behind %+v: %+v", e, got.S)
		}
	}
}

// TestTwice asks that a batch that comes twice changes nothing the second time, and none once it is over: P13.3.
func TestTwice(t *testing.T) {
	b := []api.Msg{
		batch(0, is(made("f", 3, 6, 1, 12)), is(made("a", 2, 2, 6, 7)), is(made("b", 9, 6, 8, 3)), is(made("k", 20, 6, 9, 50))),
		batch(1, goes("c", 1, 2, api.Ver{R: 6, C: 5}), goes("a", 2, 5, api.Ver{R: 6, C: 6}), goes("e", 3, 1, api.Ver{})), batch(2),
	}
	end := done(3, api.Know{Star: api.Vec{8, 8}}, goes("f", 6, 1, api.Ver{R: 6, C: 7}))
	s, x := base(), opened()
	for i, m := range []api.Msg{b[0], b[1], b[0], b[1], end, b[1], end, b[0], b[2], b[0], b[1], b[2], end} {
		got := check(t, s, x, m)
		same := alike(got.S, s) && alike(got.X, x)
		if first := i < 2 || i == 4 || i == 8; same == first || got.Err != 0 != (i > 8) {
			t.Errorf("message %d changes %+v, %+v to %+v", i, s, x, got)
		}
		s, x = got.S, got.X
	}
	if !x.Over || ids(s.Store) != "a" || ids(s.Out) != "d" {
		t.Errorf("%+v, %+v", s, x)
	}
}

// TestShared asks for new memory where lists that are handed in share some: P13.2.
func TestShared(t *testing.T) {
	texts := []string{"a", "b", "c", "d"}
	k := api.Know{L: []api.Frag{{Ids: texts[:2], Vec: api.Vec{0, 5, 2}}, {Ids: texts[2:], Vec: api.Vec{2, 7}}}}
	l := []api.Entry{goes("a", 2, 5, api.Ver{}), goes("x", 1, 1, api.Ver{})}
	numbers := []int{0, 3, 3, 9}
	for n := range 4 {
		for _, end := range []bool{true, false} {
			s, x, m := base(), running(), done(n, k, l...)
			x.Got, x.Told, x.N, x.K, x.L = numbers[:2], n%2 == 0, n, k, l
			s.K, s.Store, s.Out = k, s.Store[:2], nil
			if !end {
				m = batch(n)
			}
			then, next, err := wanted(copyOf(s), copyOf(x), copyOf(m))
			want := copyOf(told{then, next, code(t, err)})
			got := msg(t, s, x, m)
			if !alike(got, want) {
				t.Fatalf("Msg(%+v, %+v, %+v) = %+v", s, x, m, got)
			}
			s, x, m = copyOf(s), copyOf(x), copyOf(m)
			overwrite(k)
			overwrite(l)
			if overwrite(numbers); !alike(got, want) {
				t.Fatalf("%+v once what was handed in is written over", got)
			}
			texts = []string{"a", "b", "c", "d"}
			k = api.Know{L: []api.Frag{{Ids: texts[:2], Vec: api.Vec{0, 5, 2}}, {Ids: texts[2:], Vec: api.Vec{2, 7}}}}
			l = []api.Entry{goes("a", 2, 5, api.Ver{}), goes("x", 1, 1, api.Ver{})}
			numbers = []int{0, 3, 3, 9}
		}
	}
}

// TestNext asks that what was told one behind the other stays as it was told: nothing is kept: P13.1, P13.2.
func TestNext(t *testing.T) {
	r := rand.New(rand.NewSource(5))
	var got, want []told
	for range 300 {
		s, x, m := pick(r, base(), filled(9, 3), filled(0, 4)), pick(r, sessions()...), pick(r, messages()...)
		then, next, err := wanted(copyOf(s), copyOf(x), copyOf(m))
		got, want = append(got, msg(t, s, x, m)), append(want, copyOf(told{then, next, code(t, err)}))
	}
	for i := range got {
		if !alike(got[i], want[i]) {
			t.Errorf("what was told as number %d is %+v now, want %+v", i, got[i], want[i])
		}
		overwrite(got[i])
	}
}

// pick is one of l.
func pick[T any](r *rand.Rand, l ...T) T { return l[r.Intn(len(l))] }

// anyFilter is a filter; most are often seen in each other.
func anyFilter(r *rand.Rand) api.Pred {
	if r.Intn(8) == 0 {
		return pick(r, filters()...)
	}
	return pick(r, less(3), less(5), less(5), less(7), below9(), star)
}

// deed lets s make a version, of one of so many Ids, or take another filter.
func deed(r *rand.Rand, s api.State, ids int) api.State {
	id, num, at := name(r.Intn(ids)*5), r.Intn(10), pick(r, 0, 3-4i, 1000i)
	switch r.Intn(9) {
	case 0, 1, 2:
		s, _ = local.Create(s, id, pick(r, "", "pot", "cup"), num, at)
	case 3, 4, 5:
		if l := slices.Concat(s.Store, s.Out); len(l) > 0 {
			id = pick(r, l...).Id
		}
		s, _ = local.Update(s, id, pick(r, "", "pot", "cup"), num, at)
	case 6, 7:
		if l := slices.Concat(s.Store, s.Out); len(l) > 0 {
			id = pick(r, l...).Id
		}
		s, _ = local.Delete(s, id)
	case 8:
		if r.Intn(4) == 0 {
			s, _ = local.Filter(s, anyFilter(r))
		}
	}
	return s
}

// answered is what one replica asked, and what is on the way to it.
type answered struct {
	x ask.Sess
	l []api.Msg
}

// net are replicas, and each one's session; and how many Ids their items have.
type net struct {
	s        []api.State
	open     []answered
	sid, ids int
}

// newNet is one of four, that made some versions each.
func newNet(t *testing.T, r *rand.Rand, ids int) *net {
	t.Helper()
	n := &net{open: make([]answered, 4), ids: ids}
	for i := range 4 {
		f := anyFilter(r)
		// Where one has all, and the others the same, much goes that these tell each other of.
		if ids < 10 {
			f = []api.Pred{star, less(5), less(5), less(5)}[i]
		}
		s, err := local.New(i+1, f)
		if err != nil {
			t.Fatal(err)
		}
		for range ids / 4 {
			s, _ = local.Create(s, name(r.Intn(ids)*5), "pot", r.Intn(10), 3-4i)
		}
		n.s = append(n.s, s)
	}
	return n
}

// opens lets replica i ask replica k, who answers in one turn, or in two; the other ones' sessions stay.
func (n *net) opens(r *rand.Rand, i, k int) {
	n.sid++
	x, m := ask.Open(n.s[i], k+1, n.sid)
	a := answered{x, serve.Answer(n.s[k], m, 2*n.sid)}
	if r.Intn(4) == 0 {
		n.s[k] = deed(r, n.s[k], n.ids)
		a.l = append(a.l, serve.Answer(n.s[k], m, 2*n.sid+1)...)
	}
	r.Shuffle(len(a.l), func(i, k int) { a.l[i], a.l[k] = a.l[k], a.l[i] })
	n.open[i] = a
}

// TestSessions lets replicas take each other's answers in any order, any number of times, with deeds between: P13.1 to P13.3.
func TestSessions(t *testing.T) {
	r := rand.New(rand.NewSource(1))
	sums := map[string]int{}
	for i := range 12 {
		n := newNet(t, r, []int{9, 9, 110}[i%3])
		for range 200 + 8000/n.ids {
			i := r.Intn(4)
			switch a := &n.open[i]; {
			case r.Intn(4) == 0:
				n.s[i] = deed(r, n.s[i], n.ids)
			case len(a.l) == 0, r.Intn(12) == 0, a.x.Over && r.Intn(4) > 0:
				n.opens(r, i, (i+1+r.Intn(3))%4)
			default:
				n.s[i] = comes(t, sums, n.s[i], a, pick(r, a.l...))
			}
		}
	}
	for what, least := range map[string]int{"over": 600, "bad": 20, "again": 300, "none": 600, "arg": 300, "old": 300, "gone": 15, "learnt": 300} {
		if sums[what] < least {
			t.Errorf("%s: %d of %v", what, sums[what], sums)
		}
	}
}

// comes lets s take m, of a: what came already changes nothing, and once it is over s knows what the other side told, and need not be told again.
func comes(t *testing.T, sums map[string]int, s api.State, a *answered, m api.Msg) api.State {
	t.Helper()
	was := a.x
	got := check(t, s, was, m)
	again := m.Kind == api.Done && was.Told || m.Kind == api.Batch && slices.Contains(was.Got, m.N)
	switch {
	case got.Err == api.ErrArg:
		// Who answers twice answers in two turns.
		if sums["arg"]++; m.Turn == was.Turn {
			t.Fatalf("%+v is refused by %+v", m, was)
		}
	case got.Err == api.ErrOld:
		if sums["old"]++; !was.Over && was.Epoch == s.Epoch {
			t.Fatalf("%+v is refused by %+v", m, was)
		}
	case again && !was.Bad:
		if sums["again"]++; !alike(got.S, s) || !alike(got.X, was) {
			t.Fatalf("%+v comes again, and changes %+v, %+v to %+v", m, s, was, got)
		}
	case got.X.Over:
		sums["over"]++
		ended(t, sums, s, a, got)
	case got.X.Bad:
		sums["bad"]++
	default:
		sums["none"]++
	}
	a.x = got.X
	return got.S
}

// ended asks what holds of one that is over: all that the Done told is known, and of what is asked then nothing is answered that was taken.
func ended(t *testing.T, sums map[string]int, was api.State, a *answered, got told) {
	t.Helper()
	if got.X.Bad || !know.Same(know.Join(got.S.K, got.X.K), got.S.K) {
		t.Fatalf("%+v is over: %+v", got.X, got.S)
	}
	if !know.Same(got.S.K, was.K) {
		sums["learnt"]++
	}
	for _, e := range got.X.L {
		if i := slices.IndexFunc(got.S.Store, func(x api.Item) bool { return x.Id == e.Item.Id && x.Ver == e.Item.Ver }); i >= 0 {
			t.Fatalf("%+v stands yet: %+v", e, got.S)
		}
		sums["gone"]++
	}
	for _, m := range a.l {
		if m.Kind != api.Batch || m.Turn != got.X.Turn {
			continue
		}
		for _, e := range m.L {
			if !e.Goes && !know.Has(got.S.K, e.Item.Id, e.Item.Ver) {
				t.Fatalf("%+v isn't known: %+v", e, got.S)
			}
		}
	}
}

// shaken are a session and a message near to it, most of them such that all goes well, some not.
func shaken(r *rand.Rand, s api.State) (ask.Sess, api.Msg) {
	x, m := pick(r, append(sessions(), over())...), pick(r, messages()...)
	if len(s.Store) > 0 && r.Intn(3) == 0 {
		y := pick(r, s.Store...)
		m = pick(r, batch(1, is(made(y.Id, r.Intn(12), 1+r.Intn(8), 1+r.Intn(50), 1+r.Intn(60))), goes(y.Id, y.Ver.R, y.Ver.C, api.Ver{R: r.Intn(9), C: r.Intn(5)})), done(r.Intn(4), pick(r, knowns()...), goes(y.Id, y.Ver.R, y.Ver.C, api.Ver{R: r.Intn(9), C: r.Intn(5)})))
	}
	if r.Intn(2) == 0 {
		x.Got, x.N = slices.DeleteFunc(upTo(r.Intn(41)), func(int) bool { return r.Intn(12) == 0 }), pick(r, 0, 1, 2, 3, r.Intn(42))
	}
	for range r.Intn(3) {
		n := pick(r, append(numbers(), 6, 21)...)
		pick(r,
			func() { x.Sid = n }, func() { x.With = n }, func() { x.Epoch = n }, func() { x.Turn = n }, func() { x.N = n }, func() { x.Bad = !x.Bad }, func() { x.Told = !x.Told }, func() { x.Over = !x.Over }, func() { x.K = pick(r, knowns()...) }, func() { x.L = leaving(r.Intn(50)) },
			func() { m.Kind = n }, func() { m.From = n }, func() { m.To = n }, func() { m.Sid = n }, func() { m.Turn = n }, func() { m.N = n }, func() { m.N = r.Intn(5) },
			func() { m.K = pick(r, slices.Concat(knowns(), oddKnowns())...) }, func() { m.L = leaving(r.Intn(43)) },
			func() { m.L = append(m.L, is(pick(r, odd()...))) }, func() { m.L = append(m.L, pick(r, messages()...).L...) }, func() { m = api.Msg{} }, func() { x = ask.Sess{} },
		)()
	}
	return x, m
}

// TestAnyMessage hands any messages to states and sessions that may be: P1, P13.1 to P13.3.
func TestAnyMessage(t *testing.T) {
	r := rand.New(rand.NewSource(2))
	sums := map[api.Code]int{}
	for range 3000 {
		n := r.Intn(41)
		s := pick(r, base(), filled(r.Intn(n+1), 40-n), filled(n, 0))
		x, m := shaken(r, s)
		sums[check(t, s, x, m).Err]++
	}
	if sums[0] < 800 || sums[api.ErrArg] < 500 || sums[api.ErrOld] < 150 {
		t.Errorf("errors: %v", sums)
	}
}

// changes are ways in which a state may become one that may not be.
func changes(r *rand.Rand) []func(s *api.State) {
	one := func(s *api.State) *api.Item {
		s.Store = append(s.Store, made(name(r.Intn(600)), r.Intn(9), 1+r.Intn(8), 1+r.Intn(50), 1+r.Intn(60)))
		return &s.Store[r.Intn(len(s.Store))]
	}
	id := func() string { return pick(r, append(oddTexts(), "a", "z", "aa")...) }
	places := []complex128{1001, 0.5i, complex(math.NaN(), 0), complex(0, math.Inf(-1)), complex(math.Copysign(0, -1), 0)}
	return []func(s *api.State){
		func(s *api.State) { s.R = pick(r, numbers()...) }, func(s *api.State) { s.Epoch = pick(r, numbers()...) }, func(s *api.State) { s.Clock, s.Count = pick(r, numbers()...), pick(r, numbers()...) },
		func(s *api.State) { s.F = pick(r, slices.Concat(filters(), oddFilters())...) }, func(s *api.State) { s.K = pick(r, slices.Concat(knowns(), oddKnowns())...) }, func(s *api.State) { *s = api.State{} },
		func(s *api.State) { s.Store, s.Out = s.Out, s.Store }, func(s *api.State) { slices.Reverse(s.Store) }, func(s *api.State) { s.Store = slices.Concat(s.Store, s.Out, s.Store) }, func(s *api.State) { s.Out = slices.Concat(s.Store, s.Out) },
		func(s *api.State) { one(s).Id = id() }, func(s *api.State) { one(s).Kind = id() }, func(s *api.State) { one(s).Num = pick(r, numbers()...) }, func(s *api.State) { one(s).Stamp = pick(r, numbers()...) },
		func(s *api.State) { one(s).Ver = api.Ver{R: pick(r, numbers()...), C: pick(r, numbers()...)} }, func(s *api.State) { one(s).At = pick(r, places...) }, func(s *api.State) { one(s).Dead = true }, func(s *api.State) { *one(s) = api.Item{} },
	}
}

// oddly are ways in which a session may become one that may not be.
func oddly(r *rand.Rand) []func(x *ask.Sess) {
	return []func(x *ask.Sess){
		func(x *ask.Sess) { x.Got = append(x.Got, pick(r, numbers()...)) }, func(x *ask.Sess) { slices.Reverse(x.Got) }, func(x *ask.Sess) { x.Got = slices.Repeat([]int{0, 1, 2, 1}, 9) }, func(x *ask.Sess) { x.Got, x.N = numbers(), pick(r, numbers()...) }, func(x *ask.Sess) { x.Got, x.N = upTo(600), pick(r, 500, 700, math.MaxInt) },
		func(x *ask.Sess) { x.K = pick(r, oddKnowns()...) }, func(x *ask.Sess) {
			x.L = append(x.L, is(pick(r, odd()...)), goes("A", -1, 2000, api.Ver{R: pick(r, numbers()...), C: pick(r, numbers()...)}))
		}, func(x *ask.Sess) { *x = ask.Sess{} },
		func(x *ask.Sess) { x.Turn = pick(r, numbers()...) }, func(x *ask.Sess) { x.N = pick(r, numbers()...) }, func(x *ask.Sess) { x.Told = true },
	}
}

// TestAnything hands over states, sessions and messages that may not be: of these nothing is said, but that no call panics, what is handed in stays, and with an error is told as it is: P1, P13.2, R2, R4.
func TestAnything(t *testing.T) {
	r := rand.New(rand.NewSource(3))
	for range 5000 {
		wasS := pick(r, base(), filled(r.Intn(60), r.Intn(9)), filled(3, 0))
		wasX, wasM := shaken(r, wasS)
		for range r.Intn(3) {
			pick(r, changes(r)...)(&wasS)
		}
		for range r.Intn(3) {
			pick(r, oddly(r)...)(&wasX)
		}
		if r.Intn(2) == 0 {
			wasM.To, wasX.Epoch = wasS.R, wasS.Epoch
		}
		s, x, m := copyOf(wasS), copyOf(wasX), copyOf(wasM)
		got := msg(t, s, x, m)
		if got.Err != 0 && !alike(got, told{wasS, wasX, got.Err}) {
			t.Fatalf("with an error %+v, %+v became %+v", wasS, wasX, got)
		}
		overwrite(got)
		if !untouched(s, wasS) || !untouched(x, wasX) || !untouched(m, wasM) {
			t.Fatalf("%+v, %+v, %+v were changed: %+v, %+v, %+v", wasS, wasX, wasM, s, x, m)
		}
	}
}

// TestLong hands over states, sessions and messages of very many items, pieces, Ids and numbers, and very large filters: P1.
func TestLong(t *testing.T) {
	deep, bush := star, star
	for range 1<<16 - 1 {
		deep = not(deep)
	}
	for range 17 {
		bush = and(bush, bush)
	}
	s, x := base(), running()
	k := api.Know{Star: api.Vec{1}}
	var l []api.Entry
	for i := range 3000 {
		id := name(i/26) + name(i % 26)[1:]
		s.Store = append(s.Store, made(id, i%10, 1+i%8, i, i))
		k.L = append(k.L, frag(api.Vec{0, 3 + i}, id, id+"b"))
		l = append(l, goes(id, 1+i%8, i, api.Ver{R: 9 - i%3, C: i}))
	}
	for _, f := range []api.Pred{star, deep, bush, or(slices.Repeat([]api.Pred{star}, 1<<17)...)} {
		s.F = f
		for _, m := range []api.Msg{batch(1, is(made("zz", 3, 6, 1, 12)), l[0], l[1]), batch(1, l...), done(0, k, l[:40]...), done(0, api.Know{}, l...)} {
			got := msg(t, s, opened(), m)
			if got.Err != arg(len(m.L) > 40 || len(m.K.L) > 0) || len(got.S.Store) < 2990 {
				t.Errorf("a message of %d entries, and %d pieces: %v, %d items", len(m.L), len(m.K.L), got.Err, len(got.S.Store))
			}
		}
	}
	// Of a session that may not be all may go.
	s, x = base(), running()
	x.Got, x.N, x.K, x.L = upTo(1<<20), 1<<20, k, l
	if got := msg(t, s, x, batch(7)); !got.X.Over || !know.Has(got.S.K, "aab", api.Ver{R: 2, C: 4}) {
		t.Errorf("Over %v", got.X.Over)
	}
	x.N = math.MaxInt
	if got := msg(t, s, x, batch(7)); got.X.Over || len(got.X.Got) != 1<<20 {
		t.Errorf("Over %v", got.X.Over)
	}
}
