package recv_test

import (
	"maps"
	"math"
	"math/rand"
	"reflect"
	"slices"
	"testing"

	"gallipot/api"
	"gallipot/eval"
	"gallipot/item"
	"gallipot/know"
	"gallipot/list"
	"gallipot/local"
	"gallipot/recv"
)

var star = api.Pred{Op: api.Star}

func and(kids ...api.Pred) api.Pred { return api.Pred{Op: api.And, Kids: kids} }
func or(kids ...api.Pred) api.Pred  { return api.Pred{Op: api.Or, Kids: kids} }
func not(kids ...api.Pred) api.Pred { return api.Pred{Op: api.Not, Kids: kids} }
func less(n int) api.Pred           { return api.Pred{Op: api.Less, N: n} }
func more(n int) api.Pred           { return api.Pred{Op: api.More, N: n} }
func kind(s string) api.Pred        { return api.Pred{Op: api.Kind, Text: s} }

// below5 has what Less 5 has, and has Kids of Kids, so that much of it lies in memory of its own.
func below5() api.Pred { return and(less(5), or(kind("pot"), star), not(api.Pred{Op: api.None})) }

// made is the item of that Id and number, in the version of that replica and count.
func made(id string, num, r, c, stamp int) api.Item {
	return api.Item{Id: id, Ver: api.Ver{R: r, C: c}, Stamp: stamp, Kind: "pot", Num: num, At: 3 - 4i}
}

// dead is x, but Dead.
func dead(x api.Item) api.Item {
	x.Dead = true
	return x
}

// frag is a piece of those counts and Ids.
func frag(v api.Vec, ids ...string) api.Frag { return api.Frag{Ids: ids, Vec: v} }

// base is a state that may be: a and c in Store, b and d in Out, c and d Dead; of what it made itself (four versions) it knows the first one of all items, and the second one of b.
func base() api.State {
	return api.State{
		R: 3, F: below5(),
		Store: []api.Item{made("a", 3, 2, 5, 6), dead(made("c", 4, 1, 2, 4))},
		Out:   []api.Item{made("b", 5, 3, 2, 2), dead(made("d", 9, 2, 7, 9))},
		K: api.Know{Star: api.Vec{1, 0, 1}, L: []api.Frag{
			frag(api.Vec{0, 5}, "a"), frag(api.Vec{0, 0, 2}, "b"), frag(api.Vec{2}, "c"), frag(api.Vec{0, 7}, "d", "e"),
		}},
		Count: 4, Clock: 9, Epoch: 4,
	}
}

// empty is a replica that has, and knows, nothing.
func empty(r int, f api.Pred) api.State { return api.State{R: r, F: f} }

// name is an Id, of each i below 676 another one; they rise.
func name(i int) string { return string([]byte{byte('a' + i/26), byte('a' + i%26)}) }

// filled is a state that may be, with so many items in Store, and so many in Out; each fifth one is Dead, in both.
func filled(store, out int) api.State {
	s := empty(5, less(5))
	for i := range store + out {
		num := 4
		if i >= store {
			num = 5
		}
		x := made(name(i*7%676), num, 5, i+1, i+1)
		x.Dead = i%5 == 0
		if num == 4 {
			s.Store = list.Put(s.Store, x)
		} else {
			s.Out = list.Put(s.Out, x)
		}
	}
	s.Count, s.Clock, s.K.Star[4] = store+out, store+out, store+out
	return s
}

// with is s, changed.
func with(s api.State, change func(s *api.State)) api.State {
	s = copyOf(s)
	change(&s)
	return s
}

// oddTexts are texts that may be neither Ids nor Kinds.
func oddTexts() []string {
	return []string{"A", "Z", "`", "{", "a b", "aB", "a1", "a\x00", "ä", "\xff", "abcdefghi", "abcdefgh\x00"}
}

// oddPlaces are places that may not be.
func oddPlaces() []complex128 {
	return []complex128{1001, -1001, 1001i, -1001i, 0.5, 0.5i, 1000.5, complex(math.NaN(), 0), complex(0, math.NaN()), complex(math.Inf(1), 0), complex(0, math.Inf(-1))}
}

// filters may be.
func filters() []api.Pred {
	return []api.Pred{
		star, {Op: api.None}, kind(""), kind("pot"), {Op: api.Prefix, Text: "a"}, less(5), more(5), less(-1000000), more(1000000), {Op: api.Near, At: 3 - 4i, N: 0}, {Op: api.Near, At: -1000i, N: 8000000},
		and(), or(), and(star), or(less(5), kind("cup")), not(less(5)), not(not(star)), below5(), or(slices.Repeat([]api.Pred{kind("pot")}, 29)...), not(not(not(not(not(star))))),
	}
}

// roomy is v in memory of its own, with room behind all its lists, in which something stands.
func roomy(v reflect.Value) reflect.Value {
	w := reflect.New(v.Type()).Elem()
	switch v.Kind() {
	case reflect.Struct:
		for i := range v.NumField() {
			w.Field(i).Set(roomy(v.Field(i)))
		}
	case reflect.Slice:
		w.Set(reflect.MakeSlice(v.Type(), v.Len()+3, v.Len()+3))
		for i := range w.Len() {
			if i < v.Len() {
				w.Index(i).Set(roomy(v.Index(i)))
			} else {
				scribble(w.Index(i))
			}
		}
		w.SetLen(v.Len())
	default:
		w.Set(v)
	}
	return w
}

// copyOf is s in memory of its own, with room behind all its lists.
func copyOf(s api.State) api.State { return roomy(reflect.ValueOf(s)).Interface().(api.State) }

// scribble writes over all of v, what stands behind its lists, too.
func scribble(v reflect.Value) {
	switch v.Kind() {
	case reflect.Struct:
		for i := range v.NumField() {
			scribble(v.Field(i))
		}
	case reflect.Slice:
		for i := range v.Cap() {
			scribble(v.Slice(0, v.Cap()).Index(i))
		}
	case reflect.Array:
		for i := range v.Len() {
			scribble(v.Index(i))
		}
	case reflect.Int:
		v.SetInt(99)
	case reflect.String:
		v.SetString("over")
	case reflect.Complex128:
		v.SetComplex(99)
	case reflect.Bool:
		v.SetBool(true)
	}
}

// overwrite writes over all that s has.
func overwrite(s api.State) { scribble(reflect.ValueOf(&s).Elem()) }

// places tells where each element of each list of v stands, behind their lengths, too.
func places(v reflect.Value) []uintptr {
	var l []uintptr
	switch v.Kind() {
	case reflect.Struct:
		for i := range v.NumField() {
			l = append(l, places(v.Field(i))...)
		}
	case reflect.Slice:
		v = v.Slice(0, v.Cap())
		for i := range v.Len() {
			l = append(append(l, v.Index(i).Addr().Pointer()), places(v.Index(i))...)
		}
	}
	return l
}

// alike tells whether both are written alike, with what stands behind their lists, if behind asks for it: nil and empty are one, no number is like itself, and -0 isn't 0.
func alike(a, b reflect.Value, behind bool) bool {
	switch a.Kind() {
	case reflect.Struct:
		for i := range a.NumField() {
			if !alike(a.Field(i), b.Field(i), behind) {
				return false
			}
		}
		return true
	case reflect.Slice:
		if a.Len() != b.Len() || behind && a.Cap() != b.Cap() {
			return false
		}
		if behind {
			a, b = a.Slice(0, a.Cap()), b.Slice(0, b.Cap())
		}
		for i := range a.Len() {
			if !alike(a.Index(i), b.Index(i), behind) {
				return false
			}
		}
		return true
	case reflect.Complex128:
		bits := func(c complex128) [2]uint64 { return [2]uint64{math.Float64bits(real(c)), math.Float64bits(imag(c))} }
		return bits(a.Complex()) == bits(b.Complex())
	}
	return a.Interface() == b.Interface()
}

// written tells whether both are written alike.
func written(a, b api.State) bool { return alike(reflect.ValueOf(a), reflect.ValueOf(b), false) }

// untouched tells whether s is what copyOf told of was, behind all its lists, too.
func untouched(s, was api.State) bool {
	return alike(reflect.ValueOf(s), reflect.ValueOf(copyOf(was)), true)
}

// all tells the items of s, those of Store first.
func all(s api.State) []api.Item { return slices.Concat(s.Store, s.Out) }

// byId tells the items of s by their Ids.
func byId(s api.State) map[string]api.Item {
	m := map[string]api.Item{}
	for _, x := range all(s) {
		m[x.Id] = x
	}
	return m
}

// split tells those of m that f has, and the others, by rising Ids.
func split(m map[string]api.Item, f api.Pred) (has, others []api.Item) {
	for _, id := range slices.Sorted(maps.Keys(m)) {
		if x := m[id]; eval.Has(f, x) {
			has = append(has, x)
		} else {
			others = append(others, x)
		}
	}
	return has, others
}

// comesBehind tells whether x comes behind y.
func comesBehind(x, y api.Item) bool {
	if x.Stamp != y.Stamp {
		return x.Stamp > y.Stamp
	}
	return x.Ver.R > y.Ver.R || x.Ver.R == y.Ver.R && x.Ver.C > y.Ver.C
}

// wantedItem tells what s is behind Item of x, sentence by sentence; s may be.
func wantedItem(s api.State, x api.Item) (api.State, api.Code) {
	m := byId(s)
	old, there := m[x.Id]
	switch {
	case !item.May(x), x.Ver.R == s.R && x.Ver.C > s.Count:
		return s, api.ErrArg
	case know.Has(s.K, x.Id, x.Ver):
		return s, 0
	case there && !comesBehind(x, old):
	case eval.Has(s.F, x) && !there && len(m) == 40:
		return s, api.ErrFull
	default:
		delete(m, x.Id)
		if eval.Has(s.F, x) {
			m[x.Id] = x
		}
	}
	s.K = know.With(s.K, x.Id, x.Ver)
	if s.Clock < x.Stamp {
		s.Clock = x.Stamp
	}
	s.Store, s.Out = split(m, s.F)
	return s, 0
}

// wantedGoes tells what s is behind Goes, sentence by sentence; s may be.
func wantedGoes(s api.State, id string, old, new api.Ver) api.State {
	m := map[string]api.Item{}
	for _, x := range s.Store {
		m[x.Id] = x
	}
	if x, there := m[id]; !there || x.Ver != old {
		return s
	}
	delete(m, id)
	s.Store, _ = split(m, s.F)
	if new.R >= 1 && new.R <= 8 && new.C >= 1 && new.C <= 1000 && (new.R != s.R || new.C <= s.Count) {
		s.K = know.With(s.K, id, new)
	}
	return s
}

// isCode tells whether err is that very number, and nil if it is 0.
func isCode(err error, c api.Code) bool {
	if c == 0 {
		return err == nil
	}
	return err != nil && err == error(c)
}

// checkMemory asks that a call changes nothing of what it is handed, and that what it tells is new memory: R2, P10.3.
func checkMemory(t *testing.T, was api.State, call func(s api.State) api.State) {
	t.Helper()
	s := copyOf(was)
	got := call(s)
	if !untouched(s, was) {
		t.Fatalf("%+v was changed: %+v", was, s)
	}
	taken := map[uintptr]bool{}
	for _, p := range slices.Concat(places(reflect.ValueOf(s)), places(reflect.ValueOf(got))) {
		if taken[p] {
			t.Fatalf("of %+v came %+v, of which two lists, or one and one that was handed in, share memory", was, got)
		}
		taken[p] = true
	}
	kept := copyOf(got)
	if overwrite(s); !written(got, kept) {
		t.Fatalf("of %+v came %+v, and %+v once it is written over", was, kept, got)
	}
	// The other way round: what is told is written over; and nothing is kept, so that the same is told once more.
	s = copyOf(was)
	overwrite(call(s))
	if !untouched(s, was) || !written(call(s), kept) {
		t.Fatalf("%+v isn't the same once what came of it is written over", was)
	}
}

// checkItem asks for the answer to x, and all that holds of each one of a state that may be: P10.3, P10.4.
func checkItem(t *testing.T, s api.State, x api.Item, want api.State, c api.Code) api.State {
	t.Helper()
	got, err := recv.Item(copyOf(s), x)
	if !isCode(err, c) || !written(got, want) || c != 0 && !written(got, s) {
		t.Fatalf("Item(%+v, %+v) = %+v, %v, want %+v, %v", s, x, got, err, want, c)
	}
	if !local.May(s) || !local.May(got) {
		t.Fatalf("Item(%+v, %+v) = %+v: one of both may not be", s, x, got)
	}
	if again, err := recv.Item(copyOf(got), x); !isCode(err, c) || !written(again, got) {
		t.Fatalf("Item(%+v, %+v) the second time = %+v, %v", got, x, again, err)
	}
	if c == 0 {
		checkCame(t, s, x, got)
	}
	checkMemory(t, s, func(s api.State) api.State {
		got, _ := recv.Item(s, x)
		return got
	})
	return got
}

// checkCame asks of what came of x in s, where there was no error, what is asked of each.
func checkCame(t *testing.T, s api.State, x api.Item, got api.State) {
	t.Helper()
	stands := func(y api.Item) bool { return y.Id == x.Id && y.Ver == x.Ver }
	in, out := slices.ContainsFunc(got.Store, stands), slices.ContainsFunc(got.Out, stands)
	if !know.Has(got.K, x.Id, x.Ver) || got.R != s.R || got.Count != s.Count || got.Epoch != s.Epoch {
		t.Fatalf("Item(%+v, %+v) = %+v", s, x, got)
	}
	old, there := byId(s)[x.Id]
	news := !know.Has(s.K, x.Id, x.Ver)
	if behind := !there || comesBehind(x, old); news && (in != (behind && eval.Has(s.F, x)) || out) {
		t.Fatalf("Item(%+v, %+v) = %+v, where it stands in Store: %v, and in Out: %v", s, x, got, in, out)
	}
	for _, y := range all(s) {
		if z, there := byId(got)[y.Id]; y.Id != x.Id && (!there || z != y) {
			t.Fatalf("Item(%+v, %+v) = %+v, without %+v", s, x, got, y)
		}
	}
	if len(all(got)) != len(byId(got)) {
		t.Fatalf("Item(%+v, %+v) = %+v, where an Id stands twice", s, x, got)
	}
}

// checkError asks for that error to x.
func checkError(t *testing.T, s api.State, x api.Item, c api.Code) {
	t.Helper()
	if c == 0 {
		t.Fatal("no error is asked for")
	}
	checkItem(t, s, x, s, c)
}

// checkComes asks that there is no error to x, and for what the chapter's sentences say.
func checkComes(t *testing.T, s api.State, x api.Item) api.State {
	t.Helper()
	want, c := wantedItem(s, x)
	if c != 0 {
		t.Fatalf("%+v is an error to %+v", x, s)
	}
	return checkItem(t, s, x, want, 0)
}

// checkStays asks that x changes nothing, and that there is no error.
func checkStays(t *testing.T, s api.State, x api.Item) {
	t.Helper()
	checkItem(t, s, x, s, 0)
}

// checkGoes asks for what comes of Goes, and all that holds of each one of a state that may be: P10.3, P10.4.
func checkGoes(t *testing.T, s api.State, id string, old, new api.Ver, want api.State) api.State {
	t.Helper()
	got := recv.Goes(copyOf(s), id, old, new)
	if !written(got, want) {
		t.Fatalf("Goes(%+v, %q, %v, %v) = %+v, want %+v", s, id, old, new, got, want)
	}
	if !local.May(s) || !local.May(got) {
		t.Fatalf("Goes(%+v, %q, %v, %v) = %+v: one of both may not be", s, id, old, new, got)
	}
	if again := recv.Goes(copyOf(got), id, old, new); !written(again, got) {
		t.Fatalf("Goes(%+v, %q, %v, %v) the second time = %+v", got, id, old, new, again)
	}
	checkMemory(t, s, func(s api.State) api.State { return recv.Goes(s, id, old, new) })
	return got
}

// oddItems are versions of x that may not be, each for one reason, none of which is its replica's or its count's; x may be.
func oddItems(x api.Item) []api.Item {
	var l []api.Item
	put := func(change func(y *api.Item)) {
		y := x
		change(&y)
		l = append(l, y)
	}
	for _, s := range append(oddTexts(), "") {
		put(func(y *api.Item) { y.Id = s })
	}
	for _, s := range oddTexts() {
		put(func(y *api.Item) { y.Kind = s })
	}
	for _, at := range oddPlaces() {
		put(func(y *api.Item) { y.At = at })
	}
	for _, n := range []int{0, -1, math.MinInt, 1000001, 1000002, 1 << 32, math.MaxInt} {
		put(func(y *api.Item) { y.Stamp = n })
	}
	for _, n := range []int{1000001, -1000001, 1 << 32, math.MinInt, math.MaxInt} {
		put(func(y *api.Item) { y.Num = n })
	}
	return l
}

// oddVersions may not be, each for one reason.
func oddVersions() []api.Ver {
	var l []api.Ver
	for _, r := range []int{0, 9, -1, 10, 256 + 1, 1<<32 + 1, math.MinInt, math.MaxInt} {
		l = append(l, api.Ver{R: r, C: 1}, api.Ver{R: r, C: 1000})
	}
	for _, c := range []int{0, -1, 1001, 1002, 1<<32 + 1, math.MinInt, math.MaxInt} {
		l = append(l, api.Ver{R: 1, C: c}, api.Ver{R: 8, C: c})
	}
	return l
}

// states may be: some with much, some with nothing, some without room, each of another sort of filter.
func states() []api.State {
	return []api.State{
		base(), empty(1, star), empty(4, api.Pred{Op: api.None}), filled(20, 20), filled(40, 0), filled(0, 39),
		with(base(), func(s *api.State) { s.F, s.Store, s.Out = star, list.Both(s.Store, s.Out), nil }),
		with(base(), func(s *api.State) { s.F, s.Store, s.Out = not(below5()), s.Out, s.Store }),
	}
}

func TestItemsThatMayNotBe(t *testing.T) { // P10.1, P10.3, R1
	for _, s := range states() {
		// One that would come, one that would take another one's place, one that would find no room, and one that is known.
		l := []api.Item{made("e", 1, 4, 9, 10), made("a", 1, 4, 9, 10), dead(made("b", 9, 4, 9, 10)), made("zzz", 1, 4, 9, 10)}
		for i, x := range append(l, all(s)...) {
			if i%9 > 5 {
				continue
			}
			for j, y := range oddItems(x) {
				// Each one with one of them at least.
				if i < 4 || (i+j)%5 == 0 {
					checkError(t, s, y, api.ErrArg)
				}
			}
			for j, v := range oddVersions() {
				if x.Ver = v; i < 4 || (i+j)%5 == 0 {
					checkError(t, s, x, api.ErrArg)
				}
			}
		}
	}
}

func TestItemsAtTheEdges(t *testing.T) { // P10.1
	try := func(change func(x *api.Item)) {
		t.Helper()
		for _, s := range []api.State{base(), empty(3, star), filled(20, 19)} {
			for _, x := range []api.Item{made("e", 1, 6, 9, 10), made("a", 9, 6, 9, 10), dead(made("d", 1, 6, 9, 10))} {
				change(&x)
				checkComes(t, s, x)
			}
		}
	}
	for _, id := range []string{"a", "z", "abcdefgh", "zzzzzzzz"} {
		try(func(x *api.Item) { x.Id = id })
	}
	for _, s := range []string{"", "a", "z", "abcdefgh"} {
		try(func(x *api.Item) { x.Kind = s })
	}
	for _, n := range []int{-1000000, 1000000, 0} {
		try(func(x *api.Item) { x.Num = n })
	}
	for _, n := range []int{1, 2, 999999, 1000000} {
		try(func(x *api.Item) { x.Stamp = n })
	}
	for _, at := range []complex128{0, 1000 + 1000i, -1000 - 1000i, complex(math.Copysign(0, -1), math.Copysign(0, -1))} {
		try(func(x *api.Item) { x.At = at })
	}
	for _, r := range []int{1, 2, 4, 6, 7, 8} {
		for _, c := range []int{1, 2, 999, 1000} {
			try(func(x *api.Item) { x.Ver = api.Ver{R: r, C: c} })
		}
	}
}

func TestOwnVersions(t *testing.T) { // P10.1
	for r := 1; r <= 8; r++ {
		for _, count := range []int{0, 1, 2, 500, 999, 1000} {
			for _, f := range []api.Pred{star, less(5), {Op: api.None}} {
				s := empty(r, f)
				s.Count = count
				for _, c := range []int{1, 2, 499, 500, 501, 999, 1000} {
					x := made("a", 4, r, c, 7)
					if c > count {
						checkError(t, s, x, api.ErrArg)
					} else {
						checkComes(t, s, x)
					}
					// Of others there may be more than it made itself.
					x.Ver.R = r%8 + 1
					checkComes(t, s, x)
				}
			}
		}
	}
	for _, id := range []string{"a", "b", "c", "d", "e"} {
		for _, stamp := range []int{1, 6, 9, 20} {
			for _, num := range []int{1, 9} {
				checkComes(t, base(), made(id, num, 3, 3, stamp))
				checkComes(t, base(), made(id, num, 3, 4, stamp))
				checkError(t, base(), made(id, num, 3, 5, stamp), api.ErrArg)
				checkError(t, base(), made(id, num, 3, 1000, stamp), api.ErrArg)
			}
		}
	}
	// Before it is asked whether there is room.
	full := filled(20, 20)
	checkError(t, full, made("zzz", 1, 5, 41, 50), api.ErrArg)
	checkStays(t, full, made("zzz", 1, 5, 40, 50))
	full.Count = 41
	checkError(t, full, made("zzz", 1, 5, 41, 50), api.ErrFull)
}

func TestKnownVersions(t *testing.T) { // P10.1, P10.4
	for _, num := range []int{1, 9} {
		for _, stamp := range []int{1, 2, 6, 9, 10, 1000000} {
			// Of all items, whether they stand there or not.
			for _, id := range []string{"a", "b", "c", "d", "e", "zz"} {
				checkStays(t, base(), made(id, num, 1, 1, stamp))
				checkStays(t, base(), dead(made(id, num, 3, 1, stamp)))
			}
			// Of that item alone, the last one that is known, and those ahead of it.
			for _, x := range []api.Item{
				made("a", num, 2, 5, stamp), made("a", num, 2, 4, stamp), made("a", num, 2, 1, stamp), made("b", num, 3, 2, stamp),
				made("c", num, 1, 2, stamp), made("d", num, 2, 7, stamp), made("d", num, 2, 6, stamp), made("e", num, 2, 7, stamp), made("e", num, 2, 1, stamp),
			} {
				checkStays(t, base(), x)
				checkStays(t, base(), dead(x))
			}
			// The next one isn't, and neither is that one of another item.
			for _, x := range []api.Item{
				made("a", num, 2, 6, stamp), made("b", num, 3, 3, stamp), made("c", num, 1, 3, stamp), made("e", num, 2, 8, stamp), made("e", num, 1, 2, stamp),
				made("b", num, 2, 1, stamp), made("zz", num, 2, 5, stamp), made("zz", num, 3, 2, stamp), made("a", num, 1, 2, stamp), made("dd", num, 2, 7, stamp),
			} {
				if got := checkComes(t, base(), x); know.Same(got.K, base().K) {
					t.Errorf("%+v was known", x)
				}
			}
		}
	}
	// What is known is no error where there is no room.
	full := filled(20, 20)
	full.K = know.With(full.K, "zzz", api.Ver{R: 2, C: 9})
	for _, v := range []api.Ver{{R: 2, C: 9}, {R: 2, C: 1}, {R: 5, C: 40}, {R: 5, C: 1}} {
		checkStays(t, full, made("zzz", 1, v.R, v.C, 900000))
	}
	checkError(t, full, made("zzz", 1, 2, 10, 50), api.ErrFull)
	checkError(t, full, made("zzy", 1, 2, 9, 50), api.ErrFull)
}

// TestWhatIsKnownThen writes it out: With, not Own, of that item alone, and plain.
func TestWhatIsKnownThen(t *testing.T) { // P10.1
	a, b, c, d := frag(api.Vec{0, 5}, "a"), frag(api.Vec{0, 0, 2}, "b"), frag(api.Vec{2}, "c"), frag(api.Vec{0, 7}, "d", "e")
	for _, v := range []struct {
		x api.Item
		l []api.Frag
	}{
		{made("zz", 1, 1, 2, 9), []api.Frag{a, b, frag(api.Vec{2}, "c", "zz"), d}},
		{made("zz", 9, 1, 3, 9), []api.Frag{a, b, c, d, frag(api.Vec{3}, "zz")}},
		{made("aa", 9, 8, 1, 9), []api.Frag{a, frag(api.Vec{0, 0, 0, 0, 0, 0, 0, 1}, "aa"), b, c, d}},
		{made("aa", 1, 3, 2, 9), []api.Frag{a, frag(api.Vec{0, 0, 2}, "aa", "b"), c, d}},
		{made("e", 1, 4, 3, 9), []api.Frag{a, b, c, frag(api.Vec{0, 7}, "d"), frag(api.Vec{0, 7, 0, 3}, "e")}},
		{made("e", 9, 2, 9, 9), []api.Frag{a, b, c, frag(api.Vec{0, 7}, "d"), frag(api.Vec{0, 9}, "e")}},
		// One that comes behind what stands there, and one that doesn't, in Store and in Out.
		{made("a", 1, 2, 7, 9), []api.Frag{frag(api.Vec{0, 7}, "a", "d", "e"), b, c}},
		{made("a", 9, 2, 6, 9), []api.Frag{frag(api.Vec{0, 6}, "a"), b, c, d}},
		{made("a", 1, 1, 6, 5), []api.Frag{frag(api.Vec{6, 5}, "a"), b, c, d}},
		{made("b", 9, 7, 1000, 1), []api.Frag{a, frag(api.Vec{0, 0, 2, 0, 0, 0, 1000}, "b"), c, d}},
		{made("b", 1, 3, 4, 9), []api.Frag{a, frag(api.Vec{0, 0, 4}, "b"), c, d}},
		{made("d", 1, 1, 2, 8), []api.Frag{a, b, c, frag(api.Vec{2, 7}, "d"), frag(api.Vec{0, 7}, "e")}},
	} {
		got, err := recv.Item(base(), v.x)
		if want := (api.Know{Star: api.Vec{1, 0, 1}, L: v.l}); err != nil || !alike(reflect.ValueOf(got.K), reflect.ValueOf(want), false) {
			t.Errorf("behind %+v is known %+v, %v, want %+v", v.x, got.K, err, want)
		}
	}
}

// TestWhereOneStands tries one of its Id that stands in Store, in Out, and Dead there, each with one that is ahead, that comes behind, and of the same Stamp.
func TestWhereOneStands(t *testing.T) { // P10.1
	for _, y := range all(base()) {
		for _, stamp := range []int{1, y.Stamp - 1, y.Stamp, y.Stamp + 1, 1000000} {
			for r := 1; r <= 8; r++ {
				c := 900
				if r == 3 {
					c = 4
				}
				for _, num := range []int{1, 9} {
					x := made(y.Id, num, r, c, stamp)
					checkPlace(t, y, x)
					checkPlace(t, y, dead(x))
				}
			}
		}
	}
}

// checkPlace asks what comes of x in base, where y stands of its Id, that isn't known there: where it doesn't come behind nothing stands otherwise, and else y is gone.
func checkPlace(t *testing.T, y, x api.Item) {
	t.Helper()
	want := base()
	want.K = know.With(want.K, x.Id, x.Ver)
	want.Clock = max(9, x.Stamp)
	if x.Stamp > y.Stamp || x.Stamp == y.Stamp && (x.Ver.R > y.Ver.R || x.Ver.R == y.Ver.R && x.Ver.C > y.Ver.C) {
		want.Store, want.Out = list.Drop(want.Store, x.Id), list.Drop(want.Out, x.Id)
		if x.Num < 5 {
			want.Store = list.Put(want.Store, x)
		}
	}
	checkItem(t, base(), x, want, 0)
	if s := base(); know.Has(s.K, x.Id, x.Ver) || !know.Has(want.K, x.Id, x.Ver) {
		t.Fatalf("%+v is known to %+v, or isn't behind that", x, s)
	}
}

// TestPlaces writes out what stands there then.
func TestPlaces(t *testing.T) { // P10.1
	a, c, b, d := base().Store[0], base().Store[1], base().Out[0], base().Out[1]
	x := func(id string, num int) api.Item { return made(id, num, 4, 1, 10) }
	row := func(l ...api.Item) []api.Item { return l }
	for _, v := range []struct {
		x          api.Item
		store, out []api.Item
	}{
		{x("e", 4), row(a, c, x("e", 4)), row(b, d)},
		{x("e", 5), row(a, c), row(b, d)},
		{dead(x("e", 4)), row(a, c, dead(x("e", 4))), row(b, d)},
		{dead(x("e", 5)), row(a, c), row(b, d)},
		{x("aa", -7), row(a, x("aa", -7), c), row(b, d)},
		{x("a", 4), row(x("a", 4), c), row(b, d)},
		{x("a", 5), row(c), row(b, d)},
		{dead(x("a", 4)), row(dead(x("a", 4)), c), row(b, d)},
		{dead(x("a", 5)), row(c), row(b, d)},
		{x("c", 1), row(a, x("c", 1)), row(b, d)},
		{x("c", 7), row(a), row(b, d)},
		{x("b", 4), row(a, x("b", 4), c), row(d)},
		{x("b", 5), row(a, c), row(d)},
		{dead(x("b", 1)), row(a, dead(x("b", 1)), c), row(d)},
		{x("d", 0), row(a, c, x("d", 0)), row(b)},
		{x("d", 9), row(a, c), row(b)},
		{dead(x("d", 9)), row(a, c), row(b)},
	} {
		want := base()
		want.Store, want.Out, want.Clock, want.K = v.store, v.out, 10, know.With(want.K, v.x.Id, v.x.Ver)
		checkItem(t, base(), v.x, want, 0)
	}
	// The document's example.
	got, err := recv.Item(empty(1, less(5)), made("a", 5, 2, 1, 1))
	if err != nil || len(all(got)) != 0 || !know.Has(got.K, "a", api.Ver{R: 2, C: 1}) {
		t.Errorf("of an item that F hasn't came %+v, %v", got, err)
	}
}

// TestFilters asks it of filters of each sort, and of each replica.
func TestFilters(t *testing.T) { // P10.1, P10.4
	for r := 1; r <= 8; r++ {
		for _, f := range filters() {
			s := empty(r, f)
			for i, x := range []api.Item{
				made("b", 4, 1, 1, 1), made("b", 5, 1, 2, 3), made("ab", 1000000, 1, 3, 9), {Id: "ab", Stamp: 10, Kind: "cup", At: 1000i}, dead(made("b", 4, 1, 4, 4)),
				made("a", -1000000, 1, 5, 2), {Id: "c", Stamp: 6, Num: 3, At: -1000i}, dead(made("ab", 5, 1, 6, 11)), {Id: "c", Stamp: 7, Num: 1000000}, made("d", 5, 1, 7, 5),
			} {
				x.Ver = api.Ver{R: r%8 + 1, C: i + 1}
				s = checkComes(t, s, x)
			}
			if len(s.Out) > 0 || s.Count != 0 || s.Clock != 11 {
				t.Errorf("%+v behind all of them", s)
			}
		}
	}
}

func TestRoom(t *testing.T) { // P10.1, P10.3
	for _, n := range []int{38, 39, 40} {
		for _, store := range []int{0, 1, 17, n - 1, n} {
			s := filled(store, n-store)
			for _, id := range []string{"zzz", "a", "az", "mmm"} {
				for _, x := range []api.Item{made(id, 4, 2, 9, 50), dead(made(id, 4, 2, 9, 1)), made(id, -1000000, 5, n, 3)} {
					if x.Ver.R == 5 {
						// A version of its own that it forgot.
						s.Count = n + 1
						x.Ver.C = n + 1
					}
					if n == 40 {
						checkError(t, s, x, api.ErrFull)
					} else if got := checkComes(t, s, x); len(all(got)) != n+1 || len(got.Out) != n-store {
						t.Fatalf("%+v behind %+v", got, x)
					}
					// What F hasn't needs none.
					x.Num = 5
					if got := checkComes(t, s, x); len(all(got)) != n || !know.Has(got.K, x.Id, x.Ver) {
						t.Fatalf("%+v behind %+v", got, x)
					}
				}
			}
			for i, y := range all(s) {
				if i%4 == 0 {
					checkRoomOf(t, s, y)
				}
			}
		}
	}
}

// checkRoomOf asks that what comes of an Id of which y stands there needs no more room.
func checkRoomOf(t *testing.T, s api.State, y api.Item) {
	t.Helper()
	for _, num := range []int{4, 5} {
		want := len(all(s))
		if num == 5 {
			want--
		}
		x := made(y.Id, num, 2, 9, y.Stamp+1)
		if got := checkComes(t, s, x); len(all(got)) != want || len(got.Out) > len(s.Out) {
			t.Fatalf("%+v behind %+v", got, x)
		}
		// One that doesn't come behind leaves all as it stands.
		x.Stamp = y.Stamp
		if got := checkComes(t, s, x); len(all(got)) != len(all(s)) || !know.Has(got.K, x.Id, x.Ver) {
			t.Fatalf("%+v behind %+v", got, x)
		}
	}
}

func TestClock(t *testing.T) { // P10.1
	for _, clock := range []int{9, 10, 11, 500, 999999, 1000000} {
		for _, stamp := range []int{1, 9, 10, 11, 499, 500, 501, 999999, 1000000} {
			s := with(base(), func(s *api.State) { s.Clock = clock })
			for _, id := range []string{"a", "b", "c", "d", "e"} {
				for _, num := range []int{4, 5} {
					got := checkComes(t, s, made(id, num, 4, 9, stamp))
					if got.Clock != max(clock, stamp) || got.Count != 4 || got.Epoch != 4 {
						t.Fatalf("%+v behind a stamp of %d", got, stamp)
					}
				}
			}
			// Not where it is known, nor with an error.
			checkStays(t, s, made("a", 4, 2, 5, stamp))
			checkStays(t, s, made("e", 4, 1, 1, stamp))
			checkError(t, s, made("e", 4, 3, 5, stamp), api.ErrArg)
			full := with(filled(20, 20), func(s *api.State) { s.Clock = max(40, clock) })
			checkError(t, full, made("zzz", 4, 2, 9, stamp), api.ErrFull)
			if got, err := recv.Item(empty(1, less(5)), made("a", 4+stamp%2, 2, 1, stamp)); err != nil || got.Clock != stamp {
				t.Fatalf("of nothing, behind a stamp of %d, came %+v, %v", stamp, got, err)
			}
		}
	}
}

func TestGoes(t *testing.T) { // P10.2
	a, c := base().Store[0], base().Store[1]
	zero := api.Ver{}
	for _, v := range []struct {
		y     api.Item
		store []api.Item
	}{{a, []api.Item{c}}, {c, []api.Item{a}}} {
		want := base()
		want.Store = v.store
		// Without one that is new, and with ones that may not be.
		for _, new := range append(oddVersions(), zero, api.Ver{R: 3}, api.Ver{C: 3}, api.Ver{R: 3, C: 1001}, api.Ver{R: 3, C: -1}) {
			checkGoes(t, base(), v.y.Id, v.y.Ver, new, want)
		}
		// Its own ones above Count go unknown, too.
		for _, c := range []int{5, 6, 999, 1000} {
			checkGoes(t, base(), v.y.Id, v.y.Ver, api.Ver{R: 3, C: c}, want)
		}
		// Ones that are known already, by Star and by a piece.
		for _, new := range []api.Ver{{R: 1, C: 1}, {R: 3, C: 1}, v.y.Ver} {
			checkGoes(t, base(), v.y.Id, v.y.Ver, new, want)
		}
		for r := 1; r <= 8; r++ {
			for _, c := range []int{1, 2, 3, 4, 5, 999, 1000} {
				new := api.Ver{R: r, C: c}
				if r == 3 && c > 4 {
					continue
				}
				want.K = know.With(base().K, v.y.Id, new)
				if got := checkGoes(t, base(), v.y.Id, v.y.Ver, new, want); !know.Has(got.K, v.y.Id, new) {
					t.Errorf("%v of %q isn't known", new, v.y.Id)
				}
			}
		}
	}
}

// TestGoesNot tries versions other than the one that stands there, Ids that stand in Out alone, and such that don't stand there at all.
func TestGoesNot(t *testing.T) { // P10.2
	news := append(oddVersions()[:9], api.Ver{R: 1}, api.Ver{R: 1, C: 1001}, api.Ver{}, api.Ver{R: 1, C: 1}, api.Ver{R: 2, C: 9}, api.Ver{R: 3, C: 4}, api.Ver{R: 3, C: 5}, api.Ver{R: 8, C: 1000})
	for _, new := range news {
		for _, y := range base().Store {
			for _, old := range append(news, api.Ver{R: y.Ver.R, C: y.Ver.C + 1}, api.Ver{R: y.Ver.R, C: y.Ver.C - 1}, api.Ver{R: y.Ver.R + 1, C: y.Ver.C}, api.Ver{R: y.Ver.R - 1, C: y.Ver.C}, api.Ver{R: y.Ver.C, C: y.Ver.R}) {
				checkGoes(t, base(), y.Id, old, new, base())
			}
		}
		for _, y := range base().Out {
			checkGoes(t, base(), y.Id, y.Ver, new, base())
			checkGoes(t, base(), y.Id, api.Ver{}, new, base())
		}
		for _, id := range append(oddTexts(), "", "e", "aa", "zz", "`", "ac", "zzzzzzzz") {
			for _, old := range []api.Ver{{}, {R: 2, C: 5}, {R: 1, C: 2}, {R: 2, C: 7}, {R: 1, C: 1}} {
				checkGoes(t, base(), id, old, new, base())
				checkGoes(t, empty(3, star), id, old, new, empty(3, star))
			}
		}
	}
}

// TestGoesOfMany lets each one of many go, first, last and between, and writes out what is known then.
func TestGoesOfMany(t *testing.T) { // P10.2
	for _, n := range [][2]int{{1, 0}, {2, 1}, {40, 0}, {20, 20}} {
		s := filled(n[0], n[1])
		for i, y := range s.Store {
			want := s
			want.Store = slices.Concat(s.Store[:i], s.Store[i+1:])
			checkGoes(t, s, y.Id, y.Ver, api.Ver{}, want)
			checkGoes(t, s, y.Id, y.Ver, api.Ver{R: 5, C: s.Count + 1}, want)
			checkGoes(t, s, y.Id, y.Ver, api.Ver{R: 5, C: s.Count}, want)
			want.K.L = []api.Frag{frag(api.Vec{0, 3}, y.Id)}
			checkGoes(t, s, y.Id, y.Ver, api.Ver{R: 2, C: 3}, want)
		}
		for _, y := range s.Out {
			checkGoes(t, s, y.Id, y.Ver, api.Ver{R: 2, C: 3}, s)
		}
	}
	b, d := frag(api.Vec{0, 0, 2}, "b"), frag(api.Vec{0, 7}, "d", "e")
	for _, v := range []struct {
		id       string
		old, new api.Ver
		l        []api.Frag
	}{
		{"a", api.Ver{R: 2, C: 5}, api.Ver{R: 4, C: 9}, []api.Frag{frag(api.Vec{0, 5, 0, 9}, "a"), b, frag(api.Vec{2}, "c"), d}},
		{"a", api.Ver{R: 2, C: 5}, api.Ver{R: 2, C: 7}, []api.Frag{frag(api.Vec{0, 7}, "a", "d", "e"), b, frag(api.Vec{2}, "c")}},
		{"a", api.Ver{R: 2, C: 5}, api.Ver{R: 3, C: 4}, []api.Frag{frag(api.Vec{0, 5, 4}, "a"), b, frag(api.Vec{2}, "c"), d}},
		{"c", api.Ver{R: 1, C: 2}, api.Ver{R: 1, C: 3}, []api.Frag{frag(api.Vec{0, 5}, "a"), b, frag(api.Vec{3}, "c"), d}},
		{"c", api.Ver{R: 1, C: 2}, api.Ver{R: 3, C: 2}, []api.Frag{frag(api.Vec{0, 5}, "a"), b, frag(api.Vec{2, 0, 2}, "c"), d}},
	} {
		got := recv.Goes(base(), v.id, v.old, v.new)
		if want := (api.Know{Star: api.Vec{1, 0, 1}, L: v.l}); !alike(reflect.ValueOf(got.K), reflect.ValueOf(want), false) || len(got.Store) != 1 || got.Clock != 9 {
			t.Errorf("behind Goes of %q, %v, %v came %+v, want %+v", v.id, v.old, v.new, got, want)
		}
	}
}

// TestGoneStaysAway asks that what went doesn't come once more, nor what came behind it there, and that what is newer does.
func TestGoneStaysAway(t *testing.T) { // P10.2, P10.4
	x := made("e", 1, 4, 3, 12)
	s := checkComes(t, base(), x)
	s = recv.Goes(s, "e", x.Ver, api.Ver{R: 5, C: 6})
	checkStays(t, s, x)
	for c := 1; c <= 6; c++ {
		checkStays(t, s, made("e", 1, 5, c, 90))
	}
	s = checkComes(t, s, made("e", 2, 5, 7, 5))
	if y, there := list.Get(s.Store, "e"); !there || y.Num != 2 || s.Clock != 12 {
		t.Errorf("%+v, where it came anew", s)
	}
}

// pick is one of l.
func pick[T any](r *rand.Rand, l ...T) T { return l[r.Intn(len(l))] }

// replica is a state, with the versions that changed its items, since its filter stays.
type replica struct {
	s    api.State
	came map[api.Item]bool
}

// deed lets p make a version, or take another filter, and tells the version; a zero one, if it made none.
func (p *replica) deed(r *rand.Rand, id string) api.Item {
	num, at := r.Intn(10), pick(r, 0, 3-4i, 1000i)
	var s api.State
	var err error
	switch r.Intn(12) {
	case 0, 1:
		s, err = local.Delete(p.s, id)
	case 2, 3, 4, 5:
		s, err = local.Create(p.s, id, pick(r, "", "pot", "cup"), num, at)
	case 6:
		if s, err = local.Filter(p.s, pick(r, filters()[1:]...)); err == nil {
			p.s, p.came = s, map[api.Item]bool{}
		}
		return api.Item{}
	default:
		s, err = local.Update(p.s, id, pick(r, "", "pot", "cup"), num, at)
	}
	if err != nil {
		return api.Item{}
	}
	p.s = s
	x := byId(s)[id]
	p.came[x] = true
	return x
}

// take lets x come to p, asks for what the chapter's sentences say, and tells the error.
func (p *replica) take(t *testing.T, x api.Item) api.Code {
	t.Helper()
	want, c := wantedItem(p.s, x)
	got := checkItem(t, p.s, x, want, c)
	stay := got
	stay.K, stay.Clock = p.s.K, p.s.Clock
	if !written(stay, p.s) {
		if p.came[x] {
			t.Fatalf("%+v changed the items of %+v twice", x, p.s)
		}
		p.came[x] = true
	}
	// What was known is known still.
	if !know.Same(know.Join(got.K, p.s.K), got.K) || got.Clock < p.s.Clock {
		t.Fatalf("%+v came of %+v behind %+v", got, p.s, x)
	}
	p.s = got
	return c
}

// leave lets one go at p, or tries to, and tells whether it went.
func (p *replica) leave(t *testing.T, r *rand.Rand, made []api.Item) bool {
	t.Helper()
	y := pick(r, append(all(p.s), pick(r, made...))...)
	old, new := y.Ver, pick(r, pick(r, made...).Ver, api.Ver{}, api.Ver{R: p.s.R, C: p.s.Count + r.Intn(2)}, pick(r, oddVersions()...))
	if r.Intn(4) == 0 {
		old.C += r.Intn(3) - 1
	}
	if got := recv.Goes(p.s, y.Id, old, new); len(got.Store) == len(p.s.Store) || r.Intn(3) > 0 {
		// What went may come no more, and so only some go.
		checkGoes(t, p.s, y.Id, old, new, wantedGoes(p.s, y.Id, old, new))
		return false
	}
	p.s = checkGoes(t, p.s, y.Id, old, new, wantedGoes(p.s, y.Id, old, new))
	return true
}

// TestManyDeeds does many of them one behind the other, at three replicas that take what the others made, each against the chapter's sentences: P10.1 to P10.4.
func TestManyDeeds(t *testing.T) {
	r := rand.New(rand.NewSource(1))
	codes, went := map[api.Code]int{}, 0
	for round := range 24 {
		var l []*replica
		for i := range 3 {
			s, err := local.New(1+(round+3*i)%8, pick(r, append(filters(), star, star, less(5), more(3))...))
			if err != nil {
				t.Fatal(err)
			}
			l = append(l, &replica{s, map[api.Item]bool{}})
		}
		ids := pick(r, 2, 5, 12, 80, 80)
		made := []api.Item{made(name(7), 3, l[0].s.R, 1, 1)}
		for range 200 {
			p := pick(r, l...)
			switch r.Intn(10) {
			case 0, 1, 2:
				if x := p.deed(r, name(r.Intn(ids)*5)); x.Stamp > 0 {
					made = append(made, x)
				}
			case 3:
				if p.leave(t, r, made) {
					went++
				}
			case 4:
				x := pick(r, made...)
				if r.Intn(3) == 0 {
					x = pick(r, oddItems(x)...)
				}
				codes[p.take(t, x)]++
			default:
				// The newer ones come more often, and some twice.
				codes[p.take(t, made[len(made)-1-r.Intn(min(len(made), 30))])]++
			}
		}
		for i, p := range l {
			codes[p.full(t, r, 20*i)]++
		}
	}
	for _, c := range []api.Code{0, api.ErrArg, api.ErrFull} {
		if codes[c] < 20 {
			t.Errorf("error %d came %d times alone", c, codes[c])
		}
	}
	if went < 20 {
		t.Errorf("%d went alone", went)
	}
}

// full lets so many items come to p that there is no more room, where its filter has them, and tells the last one's error.
func (p *replica) full(t *testing.T, r *rand.Rand, more int) (c api.Code) {
	t.Helper()
	for i := range 30 + more {
		c = p.take(t, api.Item{Id: name(i*9%676) + "z", Ver: api.Ver{R: p.s.R%8 + 1, C: 900 + i}, Stamp: 500 + i, Kind: pick(r, "pot", "cup"), Num: r.Intn(9), At: 3 - 4i})
		if len(all(p.s)) == 40 && c == api.ErrFull {
			break
		}
	}
	return c
}

// changes are ways in which a state may become one that may not be, some of which may leave it one that may.
func changes(r *rand.Rand) []func(s *api.State) {
	numbers := []int{math.MinInt, math.MinInt + 1, -1 << 32, -1, 0, 1, 2, 8, 9, 999, 1000, 1001, 999999, 1000000, 1000001, 1 << 32, math.MaxInt - 1, math.MaxInt}
	one := func(s *api.State) *api.Item {
		for _, l := range [][]api.Item{pick(r, s.Store, s.Out), s.Store, s.Out} {
			if len(l) > 0 {
				return &l[r.Intn(len(l))]
			}
		}
		return &api.Item{}
	}
	piece := func(s *api.State) *api.Frag {
		s.K.L = append(s.K.L, frag(api.Vec{}, name(r.Intn(9)*5)))
		return &s.K.L[r.Intn(len(s.K.L))]
	}
	id := func() string { return pick(r, append(oddTexts(), "", "a", "z", "c", "aa")...) }
	odd := []api.Pred{{}, {Op: -1}, {Op: math.MaxInt}, not(), not(star, star), not(not()), {Op: api.Near, At: oddPlaces()[7], N: math.MaxInt}, {Op: api.Star, Kids: []api.Pred{{}}}, or(slices.Repeat([]api.Pred{less(1)}, 50)...)}
	return []func(s *api.State){
		func(s *api.State) { s.R = pick(r, numbers...) }, func(s *api.State) { s.Count = pick(r, numbers...) }, func(s *api.State) { s.Clock = pick(r, numbers...) }, func(s *api.State) { s.Epoch = pick(r, numbers...) },
		func(s *api.State) { s.F = pick(r, append(filters(), odd...)...) }, func(s *api.State) { s.Store, s.Out = s.Out, s.Store }, func(s *api.State) { slices.Reverse(s.Store) }, func(s *api.State) { slices.Reverse(s.Out) },
		func(s *api.State) { s.Out = slices.Concat(s.Out, s.Store) }, func(s *api.State) { s.Store = slices.Concat(s.Store, s.Out, s.Store) }, func(s *api.State) { s.Store = append(s.Store, api.Item{}) },
		func(s *api.State) { one(s).Id = id() }, func(s *api.State) { one(s).Kind = id() }, func(s *api.State) { one(s).Num = pick(r, numbers...) }, func(s *api.State) { one(s).Stamp = pick(r, numbers...) },
		func(s *api.State) { one(s).Ver.R = pick(r, numbers...) }, func(s *api.State) { one(s).Ver.C = pick(r, numbers...) }, func(s *api.State) { one(s).At = pick(r, oddPlaces()...) }, func(s *api.State) { one(s).Dead = true },
		func(s *api.State) { s.K.Star[r.Intn(8)] = pick(r, numbers...) }, func(s *api.State) { piece(s).Vec[r.Intn(8)] = pick(r, numbers...) }, func(s *api.State) { piece(s).Ids = nil }, func(s *api.State) { piece(s).Ids = []string{id(), "a", id()} },
		func(s *api.State) { slices.Reverse(s.K.L) }, func(s *api.State) { s.K = api.Know{} }, func(s *api.State) { *s = empty(pick(r, numbers...), pick(r, filters()...)) },
	}
}

// anyItem is one that stands in s, or is like one that might, with some of it changed to what may be, or may not.
func anyItem(r *rand.Rand, s api.State) api.Item {
	x := pick(r, append(all(s), made(name(r.Intn(600)), r.Intn(9), 1+r.Intn(8), 1+r.Intn(50), 1+r.Intn(60)))...)
	numbers := []int{math.MinInt, -1, 0, 1, 2, 3, 8, 9, 1000, 1001, 1000000, 1000001, math.MaxInt}
	for range r.Intn(4) {
		switch r.Intn(7) {
		case 0:
			x.Id = pick(r, append(oddTexts(), "", "a", "zz")...)
		case 1:
			x.Ver.R = pick(r, numbers...)
		case 2:
			x.Ver.C = pick(r, numbers...)
		case 3:
			x.Stamp = pick(r, numbers...)
		case 4:
			x.Num = pick(r, numbers...)
		case 5:
			x.At = pick(r, oddPlaces()...)
		default:
			x.Ver.C++
			x.Stamp++
		}
	}
	return x
}

// TestAnyArguments asks that each call ends and panics at nothing, of states that may not be, too, and that what is handed in stays: P1, R2 to R4.
func TestAnyArguments(t *testing.T) {
	r := rand.New(rand.NewSource(2))
	may := map[bool]int{}
	recv.Item(api.State{}, api.Item{})
	recv.Goes(api.State{}, "", api.Ver{}, api.Ver{})
	for range 6000 {
		s := pick(r, base(), filled(r.Intn(42), r.Intn(9)), empty(1+r.Intn(8), star))
		for range 1 + r.Intn(3) {
			func() {
				// A change may find nothing to change, as another one was there before.
				defer func() { _ = recover() }()
				pick(r, changes(r)...)(&s)
			}()
		}
		x, y := anyItem(r, s), anyItem(r, s)
		may[local.May(s)]++
		if local.May(s) {
			want, c := wantedItem(s, x)
			checkItem(t, s, x, want, c)
			checkGoes(t, s, x.Id, x.Ver, y.Ver, wantedGoes(s, x.Id, x.Ver, y.Ver))
			continue
		}
		handed := copyOf(s)
		recv.Item(handed, x)
		recv.Goes(handed, x.Id, x.Ver, y.Ver)
		recv.Goes(handed, x.Id, y.Ver, x.Ver)
		if !untouched(handed, s) {
			t.Fatalf("%+v, %+v and %+v changed it: %+v", s, x, y, handed)
		}
	}
	if may[true] < 200 || may[false] < 200 {
		t.Errorf("of those that may be, and may not: %v", may)
	}
}

// TestLongStates asks each call of states with very many items, and very many pieces: P1.
func TestLongStates(t *testing.T) {
	var s api.State
	for i := range 26 * 26 * 26 {
		id := name(i/26) + name(i % 26)[1:]
		s.Store = append(s.Store, made(id, i%10, 1+i%8, i, i))
		s.Out = append(s.Out, made(id+"a", i%10, 1+i%8, i, i))
		s.K.L = append(s.K.L, frag(api.Vec{i, 3}, id))
	}
	for _, s.R = range []int{1, 9} {
		for _, s.F = range []api.Pred{less(5), {}} {
			for _, x := range []api.Item{made("a", 1, 2, 4, 9), made("aaa", 1, 2, 4, 1), made("bbb", 9, 2, 4, 900000), dead(made("zzza", 1, 2, 4, 900000)), made("A", 1, 2, 4, 9)} {
				recv.Item(s, x)
				recv.Goes(s, x.Id, x.Ver, api.Ver{R: 1, C: 1})
			}
			for _, y := range []api.Item{s.Store[0], s.Store[9999], s.Store[len(s.Store)-1]} {
				recv.Item(s, y)
				recv.Goes(s, y.Id, y.Ver, api.Ver{R: 8, C: 1})
			}
		}
	}
}

// TestLargeFilters asks each call of states with filters of very many parts, that lie deep, or side by side, or share memory: P1.
func TestLargeFilters(t *testing.T) {
	deep, bush := star, star
	for range 1 << 16 {
		deep = not(deep)
	}
	for range 16 {
		bush = and(bush, bush)
	}
	wide := or(slices.Repeat([]api.Pred{and(star, less(1))}, 1<<18)...)
	for _, f := range []api.Pred{deep, wide, bush, or(not(bush), wide, deep)} {
		s := base()
		s.F = f
		for _, x := range []api.Item{made("e", 1, 4, 9, 10), made("a", 9, 4, 9, 10), made("a", 1, 4, 9, 1), made("a", 1, 2, 5, 6), made("E", 1, 4, 9, 10), dead(made("b", 1, 4, 9, 10))} {
			recv.Item(s, x)
			recv.Goes(s, x.Id, x.Ver, api.Ver{R: 2, C: 9})
		}
		recv.Goes(s, "a", api.Ver{R: 2, C: 5}, api.Ver{R: 2, C: 9})
		if s.F = below5(); !written(s, base()) {
			t.Fatalf("%+v isn't what was handed in", s)
		}
	}
}
