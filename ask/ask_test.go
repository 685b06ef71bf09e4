package ask_test

import (
	"math"
	"math/rand"
	"reflect"
	"slices"
	"testing"

	"gallipot/api"
	"gallipot/ask"
	"gallipot/local"
	"gallipot/recv"
)

var star = api.Pred{Op: api.Star}

func and(kids ...api.Pred) api.Pred { return api.Pred{Op: api.And, Kids: kids} }
func or(kids ...api.Pred) api.Pred  { return api.Pred{Op: api.Or, Kids: kids} }
func not(kids ...api.Pred) api.Pred { return api.Pred{Op: api.Not, Kids: kids} }
func less(n int) api.Pred           { return api.Pred{Op: api.Less, N: n} }
func kind(s string) api.Pred        { return api.Pred{Op: api.Kind, Text: s} }

// below5 has what Less 5 has, and has Kids of Kids, so that much of it lies in memory of its own.
func below5() api.Pred { return and(less(5), or(kind("pot"), star), not(api.Pred{Op: api.None})) }

// made is the item of that Id and number, in the version of that replica and count.
func made(id string, num, r, c, stamp int) api.Item {
	return api.Item{Id: id, Ver: api.Ver{R: r, C: c}, Stamp: stamp, Kind: "pot", Num: num, At: 3 - 4i}
}

// dead is x, but Dead.
func dead(x api.Item) api.Item {
	x.Dead = true
	return x
}

// frag is a piece of those counts and Ids.
func frag(v api.Vec, ids ...string) api.Frag { return api.Frag{Ids: ids, Vec: v} }

// base is a state that may be: a and c in Store, b and d in Out, c and d Dead.
func base() api.State {
	return api.State{
		R: 3, F: below5(),
		Store: []api.Item{made("a", 3, 2, 5, 6), dead(made("c", 4, 1, 2, 4))},
		Out:   []api.Item{made("b", 5, 3, 2, 2), dead(made("d", 9, 2, 7, 9))},
		K: api.Know{Star: api.Vec{1, 0, 1}, L: []api.Frag{
			frag(api.Vec{0, 5}, "a"), frag(api.Vec{0, 0, 2}, "b"), frag(api.Vec{2}, "c"), frag(api.Vec{0, 7}, "d", "e", "f"),
		}},
		Count: 4, Clock: 9, Epoch: 4,
	}
}

// empty is a replica that has, and knows, nothing.
func empty(r int, f api.Pred) api.State { return api.State{R: r, F: f} }

// name is an Id, of each i below 676 another one; they rise.
func name(i int) string { return string([]byte{byte('a' + i/26), byte('a' + i%26)}) }

// filled is a state with so many items in Store, and so many in Out, of which each fifth one is Dead, in both; it may be, if there are at most 40 of them.
func filled(store, out int) api.State {
	s := empty(5, less(5))
	for i := range store + out {
		x := made(name(i), 4, 5, i+1, i+1)
		x.Dead = i%5 == 0
		// Some of Out stand ahead of those of Store, and some behind.
		if i >= out/2 && i < out/2+store {
			s.Store = append(s.Store, x)
		} else {
			x.Num = 5
			s.Out = append(s.Out, x)
		}
	}
	s.Count, s.Clock, s.K.Star[4] = store+out, store+out, store+out
	return s
}

// filters may be.
func filters() []api.Pred {
	return []api.Pred{
		star, {Op: api.None}, kind(""), kind("pot"), {Op: api.Prefix, Text: "a"}, less(5), {Op: api.More, N: 5}, less(-1000000), {Op: api.Near, At: 3 - 4i, N: 0}, {Op: api.Near, At: -1000i, N: 8000000},
		and(), or(), and(star), or(less(5), kind("cup")), not(less(5)), not(not(star)), below5(), or(slices.Repeat([]api.Pred{kind("pot")}, 29)...), not(not(not(not(not(star))))), or(and(less(5), or(star)), and(not(below5()))),
	}
}

// oddFilters may not be.
func oddFilters() []api.Pred {
	return []api.Pred{
		{}, {Op: -1}, {Op: 11}, {Op: math.MaxInt, Text: "A", N: math.MinInt, At: 9, Kids: []api.Pred{star}}, not(), not(star, star), not(not()), kind("A"), {Op: api.Star, Text: "a"}, {Op: api.Star, Kids: []api.Pred{{}, star}}, and(api.Pred{}, or(api.Pred{Op: 99})),
		{Op: api.Near, At: complex(math.NaN(), math.Inf(-1)), N: -1}, {Op: api.Star, At: complex(math.Copysign(0, -1), 0)}, or(slices.Repeat([]api.Pred{and(less(1))}, 50)...), not(not(not(not(not(not(not(star))))))),
	}
}

// knowns may be.
func knowns() []api.Know {
	return []api.Know{
		{}, {Star: api.Vec{1, 2, 3, 4, 5, 6, 7, 8}}, {Star: api.Vec{1000, 7: 1000}}, {L: []api.Frag{frag(api.Vec{7: 1}, "a")}}, {L: []api.Frag{frag(api.Vec{1, 2}, "a", "b", "c", "zzzzzzzz")}},
		{Star: api.Vec{0, 2}, L: []api.Frag{frag(api.Vec{1}, "a", "d"), frag(api.Vec{0, 3}, "b", "e", "g"), frag(api.Vec{4, 5, 6}, "c")}}, base().K,
	}
}

// oddKnowns may not be: they aren't plain, or have Ids or counts that may not be.
func oddKnowns() []api.Know {
	return []api.Know{
		{Star: api.Vec{-1, 1001}}, {L: []api.Frag{{}}}, {L: []api.Frag{{}, {}, {Ids: []string{}}}}, {L: []api.Frag{frag(api.Vec{1})}}, {L: []api.Frag{frag(api.Vec{1}, "b", "a", "b")}}, {L: []api.Frag{frag(api.Vec{1}, "A", "")}},
		{Star: api.Vec{3}, L: []api.Frag{frag(api.Vec{2}, "a"), frag(api.Vec{3}, "a")}}, {L: []api.Frag{frag(api.Vec{2}, "b"), frag(api.Vec{2}, "a"), frag(api.Vec{}, "c")}}, {L: []api.Frag{frag(api.Vec{math.MaxInt, math.MinInt}, "a", "\xff\x00")}},
	}
}

// numbers are of any replica, count, or session, or of none.
func numbers() []int {
	return []int{math.MinInt, math.MinInt + 1, -1 << 32, -3, -1, 0, 1, 2, 3, 4, 5, 8, 9, 1000, 1001, 999999, 1000000, 1000001, 1 << 32, math.MaxInt - 1, math.MaxInt}
}

// answer is what Open tells.
type answer struct {
	X ask.Sess
	M api.Msg
}

// open tells what Open tells.
func open(s api.State, with, sid int) answer {
	x, m := ask.Open(s, with, sid)
	return answer{x, m}
}

// wanted tells what Open is to tell, sentence by sentence.
func wanted(s api.State, with, sid int) answer {
	var a answer
	a.X.Sid, a.X.With, a.X.Epoch = sid, with, s.Epoch
	a.M.Kind, a.M.From, a.M.To, a.M.Sid = 1, s.R, with, sid
	a.M.F, a.M.K = s.F, s.K
	for _, x := range s.Store {
		a.M.Have = append(a.M.Have, api.Has{Id: x.Id, Ver: x.Ver, Stamp: x.Stamp})
	}
	return a
}

// roomy is v in memory of its own, with room behind all its lists, in which something stands.
func roomy(v reflect.Value) reflect.Value {
	w := reflect.New(v.Type()).Elem()
	switch v.Kind() {
	case reflect.Struct:
		for i := range v.NumField() {
			w.Field(i).Set(roomy(v.Field(i)))
		}
	case reflect.Slice:
		w.Set(reflect.MakeSlice(v.Type(), v.Len()+3, v.Len()+3))
		for i := range w.Len() {
			if i < v.Len() {
				w.Index(i).Set(roomy(v.Index(i)))
			} else {
				scribble(w.Index(i))
			}
		}
		w.SetLen(v.Len())
	default:
		w.Set(v)
	}
	return w
}

// copyOf is v in memory of its own, with room behind all its lists.
func copyOf[T any](v T) T { return roomy(reflect.ValueOf(v)).Interface().(T) }

// scribble writes over all of v, what stands behind its lists, too.
func scribble(v reflect.Value) {
	switch v.Kind() {
	case reflect.Struct:
		for i := range v.NumField() {
			scribble(v.Field(i))
		}
	case reflect.Slice:
		for i := range v.Cap() {
			scribble(v.Slice(0, v.Cap()).Index(i))
		}
	case reflect.Array:
		for i := range v.Len() {
			scribble(v.Index(i))
		}
	case reflect.Int:
		v.SetInt(99)
	case reflect.String:
		v.SetString("over")
	case reflect.Complex128:
		v.SetComplex(99)
	case reflect.Bool:
		v.SetBool(true)
	}
}

// overwrite writes over all that v has.
func overwrite[T any](v T) { scribble(reflect.ValueOf(&v).Elem()) }

// places puts where each element of each list of v stands, behind their lengths, too, behind l.
func places(l []uintptr, v reflect.Value) []uintptr {
	switch v.Kind() {
	case reflect.Struct:
		for i := range v.NumField() {
			l = places(l, v.Field(i))
		}
	case reflect.Slice:
		v = v.Slice(0, v.Cap())
		for i := range v.Len() {
			l = places(append(l, v.Index(i).Addr().Pointer()), v.Index(i))
		}
	}
	return l
}

// alikeValues tells whether both are written alike, with what stands behind their lists, if behind asks for it: nil and empty are one, no number is like itself, and -0 isn't 0.
func alikeValues(a, b reflect.Value, behind bool) bool {
	switch a.Kind() {
	case reflect.Struct:
		for i := range a.NumField() {
			if !alikeValues(a.Field(i), b.Field(i), behind) {
				return false
			}
		}
		return true
	case reflect.Slice:
		if a.Len() != b.Len() || behind && a.Cap() != b.Cap() {
			return false
		}
		if behind {
			a, b = a.Slice(0, a.Cap()), b.Slice(0, b.Cap())
		}
		for i := range a.Len() {
			if !alikeValues(a.Index(i), b.Index(i), behind) {
				return false
			}
		}
		return true
	case reflect.Complex128:
		bits := func(c complex128) [2]uint64 { return [2]uint64{math.Float64bits(real(c)), math.Float64bits(imag(c))} }
		return bits(a.Complex()) == bits(b.Complex())
	}
	return a.Interface() == b.Interface()
}

// alike tells whether both are written alike.
func alike[T any](a, b T) bool { return alikeValues(reflect.ValueOf(a), reflect.ValueOf(b), false) }

// untouched tells whether s is what copyOf told of was, behind all its lists, too.
func untouched(s, was api.State) bool {
	return alikeValues(reflect.ValueOf(s), reflect.ValueOf(copyOf(was)), true)
}

// check asks for what the chapter's sentences say, and that it is new memory: P11.1, P11.2, R2, R3.
func check(t *testing.T, s api.State, with, sid int) {
	t.Helper()
	checkIs(t, s, with, sid, wanted(s, with, sid))
}

// checkIs asks for that answer, and that it is new memory: P11.1, P11.2, R2, R3.
func checkIs(t *testing.T, was api.State, with, sid int, want answer) {
	t.Helper()
	s := copyOf(was)
	got := open(s, with, sid)
	if !alike(got, want) {
		t.Fatalf("Open(%+v, %d, %d) = %+v, want %+v", was, with, sid, got, want)
	}
	if !untouched(s, was) {
		t.Fatalf("Open(%+v, %d, %d) changed it: %+v", was, with, sid, s)
	}
	taken := map[uintptr]bool{}
	for _, p := range places(places(nil, reflect.ValueOf(s)), reflect.ValueOf(got)) {
		if taken[p] {
			t.Fatalf("of %+v came %+v, of which two lists, or one and one that was handed in, share memory", was, got)
		}
		taken[p] = true
	}
	if overwrite(s); !alike(got, want) {
		t.Fatalf("of %+v came %+v, and %+v once it is written over", was, want, got)
	}
	// The other way round: what is told is written over, the message first, then the session.
	s = copyOf(was)
	got = open(s, with, sid)
	if overwrite(got.M); !alike(got.X, want.X) || !untouched(s, was) {
		t.Fatalf("%+v, and %+v, once the message that came of it is written over", s, got.X)
	}
	got = open(s, with, sid)
	if overwrite(got.X); !alike(got.M, want.M) || !untouched(s, was) {
		t.Fatalf("%+v, and %+v, once the session that came of it is written over", s, got.M)
	}
	// Nothing is kept, so that the same is told once more.
	if got = open(s, with, sid); !alike(got, want) {
		t.Fatalf("Open(%+v, %d, %d) the next time = %+v", was, with, sid, got)
	}
}

// checkHave asks that what is had rises, and is all of Store: P11.3; s may be.
func checkHave(t *testing.T, s api.State) {
	t.Helper()
	if !local.May(s) {
		t.Fatalf("%+v may not be", s)
	}
	l := open(s, 1, 1).M.Have
	stands := map[string]api.Item{}
	for _, x := range s.Store {
		stands[x.Id] = x
	}
	for i, h := range l {
		if i > 0 && l[i-1].Id >= h.Id {
			t.Fatalf("%+v of %+v doesn't rise", l, s)
		}
		if x, there := stands[h.Id]; !there || x.Ver != h.Ver || x.Stamp != h.Stamp {
			t.Fatalf("%+v doesn't stand in Store of %+v", h, s)
		}
	}
	if len(l) != len(s.Store) {
		t.Fatalf("%+v of %+v aren't all", l, s)
	}
}

// TestNothing asks Open of replicas that have, and know, nothing.
func TestNothing(t *testing.T) { // P11.1
	for r := 1; r <= 8; r++ {
		for _, f := range filters() {
			s, err := local.New(r, f)
			if err != nil {
				t.Fatal(err)
			}
			checkIs(t, s, r%8+1, 7, answer{ask.Sess{Sid: 7, With: r%8 + 1}, api.Msg{Kind: api.Ask, From: r, To: r%8 + 1, Sid: 7, F: f}})
			checkHave(t, s)
		}
	}
	x, m := ask.Open(api.State{}, 0, 0)
	if !alike(x, ask.Sess{}) || !alike(m, api.Msg{Kind: 1}) {
		t.Errorf("Open of a zero state = %+v, %+v", x, m)
	}
}

// TestAnswer writes the session and the message out, of items in Store alone, in Out alone, in both, and in neither.
func TestAnswer(t *testing.T) { // P11.1
	has := []api.Has{{Id: "a", Ver: api.Ver{R: 2, C: 5}, Stamp: 6}, {Id: "c", Ver: api.Ver{R: 1, C: 2}, Stamp: 4}}
	for _, v := range []struct {
		store, out []api.Item
		have       []api.Has
	}{
		{base().Store, nil, has}, {base().Store, base().Out, has}, {nil, base().Out, nil}, {nil, nil, nil}, {base().Store[:1], base().Out, has[:1]}, {base().Store[1:], base().Out[:1], has[1:]},
	} {
		s := base()
		s.Store, s.Out = v.store, v.out
		x := ask.Sess{Sid: 21, With: 6, Epoch: 4}
		m := api.Msg{
			Kind: api.Ask, From: 3, To: 6, Sid: 21,
			F: api.Pred{Op: api.And, Kids: []api.Pred{
				{Op: api.Less, N: 5}, {Op: api.Or, Kids: []api.Pred{{Op: api.Kind, Text: "pot"}, {Op: api.Star}}}, {Op: api.Not, Kids: []api.Pred{{Op: api.None}}},
			}},
			K: api.Know{Star: api.Vec{1, 0, 1}, L: []api.Frag{
				{Ids: []string{"a"}, Vec: api.Vec{0, 5}}, {Ids: []string{"b"}, Vec: api.Vec{0, 0, 2}}, {Ids: []string{"c"}, Vec: api.Vec{2}}, {Ids: []string{"d", "e", "f"}, Vec: api.Vec{0, 7}},
			}},
			Have: v.have,
		}
		checkIs(t, s, 6, 21, answer{x, m})
		checkHave(t, s)
	}
}

// TestMany asks Open of states with up to 40 items, Dead ones among them, in Store, in Out, and in both.
func TestMany(t *testing.T) { // P11.1, P11.3
	for _, n := range [][2]int{{1, 0}, {0, 1}, {2, 2}, {4, 0}, {5, 0}, {39, 0}, {40, 0}, {39, 1}, {20, 20}, {1, 39}, {0, 39}, {0, 40}} {
		s := filled(n[0], n[1])
		check(t, s, 2, 3)
		checkHave(t, s)
		m := open(s, 2, 3).M
		for i := range n[0] {
			k := n[1]/2 + i
			if m.Have[i] != (api.Has{Id: name(k), Ver: api.Ver{R: 5, C: k + 1}, Stamp: k + 1}) {
				t.Errorf("%d of %+v", i, m.Have)
			}
		}
	}
}

// TestHas asks for each one's Ver and Stamp, at their edges, of items that are alike but for these, and of Dead ones.
func TestHas(t *testing.T) { // P11.1, P11.3
	vers := []api.Ver{{R: 1, C: 1}, {R: 1, C: 1000}, {R: 2, C: 9}, {R: 8, C: 1}, {R: 8, C: 1000}}
	stamps := []int{1, 2, 9, 999999, 1000000}
	for i, v := range vers {
		for j, stamp := range stamps {
			a := api.Item{Id: "a", Ver: v, Stamp: stamp}
			b := api.Item{Id: "zzzzzzzz", Ver: vers[(i+1)%5], Stamp: stamps[(j+1)%5], Kind: "a", Num: -1000000, At: 1000 - 1000i, Dead: true}
			s := api.State{R: 2, F: star, Store: []api.Item{a, b}, K: api.Know{Star: api.Vec{1000, 9, 7: 1000}}, Count: 9, Clock: 1000000}
			checkHave(t, s)
			m := open(s, 8, 9).M
			if want := []api.Has{{Id: "a", Ver: v, Stamp: stamp}, {Id: "zzzzzzzz", Ver: b.Ver, Stamp: b.Stamp}}; !slices.Equal(m.Have, want) {
				t.Errorf("Have is %+v, want %+v", m.Have, want)
			}
			check(t, s, 8, 9)
		}
	}
}

// TestNumbers tries a with and a sid of any number, the state's own replica among them, and any Epoch, Count and Clock.
func TestNumbers(t *testing.T) { // P11.1
	for _, r := range []int{1, 3, 8} {
		s := base()
		s.R = r
		for _, with := range append(numbers(), r) {
			for _, sid := range append(numbers(), r) {
				check(t, s, with, sid)
				x, m := ask.Open(s, with, sid)
				if x.With != with || m.To != with || x.Sid != sid || m.Sid != sid || x.Epoch != 4 || m.From != r || len(m.Have) != 2 {
					t.Errorf("Open of %d and %d = %+v, %+v", with, sid, x, m)
				}
			}
		}
	}
	for _, n := range numbers() {
		for _, change := range []func(s *api.State){
			func(s *api.State) { s.Epoch = n }, func(s *api.State) { s.Count = n }, func(s *api.State) { s.Clock = n }, func(s *api.State) { s.R = n },
		} {
			s := base()
			change(&s)
			check(t, s, 1, 2)
			if x, m := ask.Open(s, 1, 2); x.Epoch != s.Epoch || m.From != s.R {
				t.Errorf("Open of %+v = %+v, %+v", s, x, m)
			}
		}
	}
}

// TestFilters asks that the filter is told as it is written, with Kids of Kids, where it may not be, too.
func TestFilters(t *testing.T) { // P11.1, P11.2
	for _, f := range slices.Concat(filters(), oddFilters()) {
		check(t, empty(2, f), 4, 8)
		s := base()
		s.F = f
		check(t, s, 4, 8)
	}
}

// TestKnown asks that what is known is told as it is written, with pieces of several Ids, where it may not be, too.
func TestKnown(t *testing.T) { // P11.1, P11.2
	for _, k := range slices.Concat(knowns(), oddKnowns()) {
		s := empty(2, below5())
		s.K = k
		check(t, s, 4, 8)
		s = base()
		s.K = k
		check(t, s, 4, 8)
	}
}

// TestShared asks for new memory where lists that were handed in share some.
func TestShared(t *testing.T) { // P11.2
	kids, ids := []api.Pred{less(5), kind("pot")}, []string{"a", "b", "c", "d"}
	s := base()
	s.F = and(api.Pred{Op: api.Or, Kids: kids}, api.Pred{Op: api.And, Kids: kids}, not(api.Pred{Op: api.Or, Kids: kids[1:]}))
	s.Out = s.Store
	s.K.L = []api.Frag{{Ids: ids, Vec: api.Vec{1}}, {Ids: ids, Vec: api.Vec{2}}, {Ids: ids[:2], Vec: api.Vec{3}}, {Ids: ids[2:], Vec: api.Vec{4}}}
	want := copyOf(wanted(s, 1, 2))
	got := open(s, 1, 2)
	if !alike(got, want) {
		t.Fatalf("Open(%+v) = %+v", s, got)
	}
	taken := map[uintptr]bool{}
	for _, p := range places(nil, reflect.ValueOf(got)) {
		if taken[p] {
			t.Fatalf("two lists of %+v share memory", got)
		}
		taken[p] = true
	}
	overwrite(s)
	if !alike(got, want) {
		t.Errorf("%+v once what was handed in is written over", got)
	}
}

// TestNext asks that sessions and messages opened one behind the other, of one state and of several, stay as they were told: nothing is kept.
func TestNext(t *testing.T) { // P11.1, P11.2
	var got, want []answer
	states := []api.State{base(), filled(9, 3), empty(3, star), filled(0, 4), base(), filled(40, 0)}
	for i := range 60 {
		s := states[i%len(states)]
		got, want = append(got, open(s, i%9, i)), append(want, copyOf(wanted(s, i%9, i)))
	}
	for i := range got {
		if !alike(got[i], want[i]) {
			t.Errorf("the answer told as number %d is %+v now, want %+v", i, got[i], want[i])
		}
		overwrite(got[i])
	}
	for _, s := range states {
		checkHave(t, s)
	}
}

// pick is one of l.
func pick[T any](r *rand.Rand, l ...T) T { return l[r.Intn(len(l))] }

// deed lets s make a version, take another filter, take an item, or let one go.
func deed(r *rand.Rand, s api.State) api.State {
	id := name(r.Intn(60) * 5)
	num, at := r.Intn(10), pick(r, 0, 3-4i, 1000i)
	switch r.Intn(10) {
	case 0, 1, 2:
		s, _ = local.Create(s, id, pick(r, "", "pot", "cup"), num, at)
	case 3:
		s, _ = local.Update(s, id, pick(r, "", "pot", "cup"), num, at)
	case 4:
		s, _ = local.Delete(s, id)
	case 5:
		s, _ = local.Filter(s, pick(r, filters()...))
	case 6:
		if x := pick(r, append(s.Store, made(id, num, 1, 1, 1))...); r.Intn(3) == 0 {
			s = recv.Goes(s, x.Id, x.Ver, api.Ver{R: 1, C: r.Intn(90)})
		}
	default:
		x := made(id, num, 1+r.Intn(8), 1+r.Intn(90), 1+r.Intn(s.Clock+9))
		x.Dead = r.Intn(4) == 0
		s, _ = recv.Item(s, x)
	}
	return s
}

// TestManyDeeds asks Open of states behind many deeds: P11.1 to P11.3.
func TestManyDeeds(t *testing.T) {
	r := rand.New(rand.NewSource(1))
	longest, dying, out := 0, 0, 0
	for round := range 40 {
		s, err := local.New(1+round%8, pick(r, append(filters(), less(5), less(7), less(9))...))
		if err != nil {
			t.Fatal(err)
		}
		for range 80 {
			s = deed(r, s)
			check(t, s, 1+r.Intn(8), r.Intn(1000000))
			checkHave(t, s)
			longest, out = max(longest, len(s.Store)), max(out, len(s.Out))
			if slices.ContainsFunc(s.Store, func(x api.Item) bool { return x.Dead }) {
				dying++
			}
		}
	}
	if longest < 30 || dying < 500 || out < 8 {
		t.Errorf("at most %d in Store and %d in Out, Dead ones %d times alone", longest, out, dying)
	}
}

// changes are ways in which a state may become one that may not be, some of which may leave it one that may.
func changes(r *rand.Rand) []func(s *api.State) {
	one := func(s *api.State) *api.Item {
		s.Store = append(s.Store, made(name(r.Intn(600)), r.Intn(9), 1+r.Intn(8), 1+r.Intn(50), 1+r.Intn(60)))
		return &s.Store[r.Intn(len(s.Store))]
	}
	id := func() string {
		return pick(r, "", "A", "`", "{", "a b", "a\x00", "ä", "\xff", "abcdefghi", "a", "z", "aa")
	}
	places := []complex128{1001, 0.5i, complex(math.NaN(), 0), complex(0, math.Inf(-1)), complex(math.Copysign(0, -1), 0)}
	return []func(s *api.State){
		func(s *api.State) { s.R = pick(r, numbers()...) }, func(s *api.State) { s.Epoch = pick(r, numbers()...) }, func(s *api.State) { s.Clock, s.Count = pick(r, numbers()...), pick(r, numbers()...) },
		func(s *api.State) { s.F = pick(r, slices.Concat(filters(), oddFilters())...) }, func(s *api.State) { s.K = pick(r, slices.Concat(knowns(), oddKnowns())...) }, func(s *api.State) { *s = empty(s.R, pick(r, filters()...)) },
		func(s *api.State) { s.Store, s.Out = s.Out, s.Store }, func(s *api.State) { slices.Reverse(s.Store) }, func(s *api.State) { s.Store = slices.Concat(s.Store, s.Out, s.Store) }, func(s *api.State) { s.Out = slices.Concat(s.Store, s.Out) },
		func(s *api.State) { one(s).Id = id() }, func(s *api.State) { one(s).Kind = id() }, func(s *api.State) { one(s).Num = pick(r, numbers()...) }, func(s *api.State) { one(s).Stamp = pick(r, numbers()...) },
		func(s *api.State) { one(s).Ver = api.Ver{R: pick(r, numbers()...), C: pick(r, numbers()...)} }, func(s *api.State) { one(s).At = pick(r, places...) }, func(s *api.State) { one(s).Dead = true }, func(s *api.State) { *one(s) = api.Item{} },
	}
}

// TestAnyArguments asks Open of any states, most of which may not be: the chapter's sentences ask nothing of whether they may: P1, P11.1, P11.2.
func TestAnyArguments(t *testing.T) {
	r := rand.New(rand.NewSource(2))
	may := map[bool]int{}
	for range 4000 {
		s := pick(r, base(), filled(r.Intn(42), r.Intn(9)), empty(1+r.Intn(8), star))
		for range 1 + r.Intn(3) {
			pick(r, changes(r)...)(&s)
		}
		may[local.May(s)]++
		check(t, s, pick(r, numbers()...), pick(r, numbers()...))
	}
	if may[true] < 200 || may[false] < 200 {
		t.Errorf("of those that may be, and may not: %v", may)
	}
}

// TestLongStates asks Open of a state with very many items, and very many pieces and Ids: P1, P11.1, P11.2.
func TestLongStates(t *testing.T) {
	s := empty(3, or(slices.Repeat([]api.Pred{and(less(4), star)}, 1<<15)...))
	var ids []string
	for i := range 26 * 26 * 26 {
		id := name(i/26) + name(i % 26)[1:]
		s.Store = append(s.Store, made(id, i%10, 1+i%8, i, i))
		s.Out = append(s.Out, made(id+"a", i%10, 1+i%8, i, i))
		s.K.L = append(s.K.L, frag(api.Vec{i, 3}, id, id+"b"))
		ids = append(ids, id)
	}
	s.K.L = append(s.K.L, frag(api.Vec{1}, ids...))
	check(t, s, 5, 6)
}

// TestLargeFilters asks Open of states with filters of very many parts, that lie deep, or side by side, or share memory: P1, P11.1, P11.2.
func TestLargeFilters(t *testing.T) {
	deep, bush := star, star
	for range 1<<16 - 1 {
		deep = not(deep)
	}
	for range 17 {
		bush = and(bush, bush)
	}
	wide := or(slices.Repeat([]api.Pred{star}, 1<<18)...)
	for i, f := range []api.Pred{deep, wide, bush, or(not(bush), wide, bush)} {
		s := base()
		s.F = f
		x, m := ask.Open(s, 2, 3)
		if !alike(x, ask.Sess{Sid: 3, With: 2, Epoch: 4}) || !alike(m.F, f) {
			t.Errorf("large filter %d is told as another one", i)
		}
		taken := map[uintptr]bool{}
		for _, p := range places(nil, reflect.ValueOf(m.F)) {
			taken[p] = true
		}
		if len(taken) < len(places(nil, reflect.ValueOf(f))) {
			t.Errorf("two lists of large filter %d share memory as it is told", i)
		}
		for _, p := range places(nil, reflect.ValueOf(f)) {
			if taken[p] {
				t.Fatalf("large filter %d isn't told in new memory", i)
			}
		}
		if m.F = below5(); !alike(m, wanted(base(), 2, 3).M) {
			t.Errorf("with large filter %d: %+v", i, m)
		}
		if s.F = below5(); !alike(s, base()) {
			t.Errorf("with large filter %d %+v isn't what was handed in", i, s)
		}
	}
}
