package local_test

import (
	"maps"
	"math"
	"math/rand"
	"slices"
	"testing"

	"gallipot/api"
	"gallipot/eval"
	"gallipot/item"
	"gallipot/know"
	"gallipot/list"
	"gallipot/local"
	"gallipot/pred"
)

var (
	star = api.Pred{Op: api.Star}
	none = api.Pred{Op: api.None}

	minus0 = math.Copysign(0, -1)
)

func and(kids ...api.Pred) api.Pred { return api.Pred{Op: api.And, Kids: kids} }
func or(kids ...api.Pred) api.Pred  { return api.Pred{Op: api.Or, Kids: kids} }
func not(kids ...api.Pred) api.Pred { return api.Pred{Op: api.Not, Kids: kids} }
func less(n int) api.Pred           { return api.Pred{Op: api.Less, N: n} }
func more(n int) api.Pred           { return api.Pred{Op: api.More, N: n} }
func kind(s string) api.Pred        { return api.Pred{Op: api.Kind, Text: s} }

// below5 has what Less 5 has, and has Kids of Kids, so that much of it lies in memory of its own.
func below5() api.Pred { return and(less(5), or(kind("pot"), star), not(none)) }

// made is the item of that Id and number, in the version of that replica and count.
func made(id string, num, r, c, stamp int) api.Item {
	return api.Item{Id: id, Ver: api.Ver{R: r, C: c}, Stamp: stamp, Kind: "pot", Num: num, At: 3 - 4i}
}

// dead is x, but Dead.
func dead(x api.Item) api.Item {
	x.Dead = true
	return x
}

// row is a list of items, all of them in memory of its own.
func row(l ...api.Item) []api.Item { return slices.Clone(l) }

// frag is a piece of those counts and Ids.
func frag(v api.Vec, ids ...string) api.Frag { return api.Frag{Ids: slices.Clone(ids), Vec: v} }

// base is a state that may be: a and c in Store, b and d in Out, c and d Dead; what it knows goes beyond these, and Star has all that it made itself.
func base() api.State {
	return api.State{
		R: 3, F: below5(),
		Store: row(made("a", 3, 3, 1, 1), dead(made("c", 4, 1, 2, 4))),
		Out:   row(made("b", 5, 3, 2, 2), dead(made("d", 9, 2, 7, 9))),
		K:     api.Know{Star: api.Vec{1, 0, 2}, L: []api.Frag{frag(api.Vec{2}, "c"), frag(api.Vec{0, 7}, "d", "e")}},
		Count: 2, Clock: 9, Epoch: 4,
	}
}

// gap is base, but that one version more was made, which it doesn't know.
func gap() api.State {
	s := base()
	s.Count = 3
	return s
}

// empty is a replica that has, and knows, nothing.
func empty(r int, f api.Pred) api.State { return api.State{R: r, F: f} }

// name is an Id, of each i below 676 another one; they rise.
func name(i int) string { return string([]byte{byte('a' + i/26), byte('a' + i%26)}) }

// filled is a state that may be, with so many items in Store, and so many in Out; each fifth one is Dead, in both.
func filled(store, out int) api.State {
	s := empty(5, less(5))
	for i := range store + out {
		num := 4
		if i >= store {
			num = 5
		}
		x := made(name(i*7%676), num, 5, i+1, i+1)
		x.Dead = i%5 == 0
		if num == 4 {
			s.Store = list.Put(s.Store, x)
		} else {
			s.Out = list.Put(s.Out, x)
		}
	}
	s.Count, s.Clock, s.K.Star[4] = store+out, store+out, store+out
	return s
}

// with is s, changed.
func with(s api.State, change func(s *api.State)) api.State {
	s = copyOf(s)
	change(&s)
	return s
}

// oddTexts are texts that may be neither Ids nor Kinds.
func oddTexts() []string {
	return []string{"A", "Z", "`", "{", "a b", "aB", "a1", "a\x00", "ä", "\xff", "abcdefghi", "abcdefgh\x00"}
}

// oddPlaces are places that may not be.
func oddPlaces() []complex128 {
	return []complex128{1001, -1001, 1001i, -1001i, 0.5, 0.5i, 1000.5, complex(math.NaN(), 0), complex(0, math.NaN()), complex(math.Inf(1), 0), complex(0, math.Inf(-1))}
}

// filters may be.
func filters() []api.Pred {
	return []api.Pred{
		star, none, kind(""), kind("pot"), {Op: api.Prefix, Text: "a"}, less(5), more(5), less(-1000000), more(1000000), {Op: api.Near, At: 3 - 4i, N: 0}, {Op: api.Near, At: -1000i, N: 8000000},
		and(), or(), and(star), or(none, less(5)), not(less(5)), not(not(star)), below5(), or(slices.Repeat([]api.Pred{kind("pot")}, 29)...), not(not(not(not(not(star))))),
	}
}

// oddFilters may not be.
func oddFilters() []api.Pred {
	return []api.Pred{
		{}, {Op: -1}, {Op: 11}, {Op: math.MaxInt}, {Op: api.Star, N: 1}, {Op: api.Star, Text: "a"}, {Op: api.None, Kids: []api.Pred{star}}, not(), not(star, star), kind("A"), kind("abcdefghi"), less(1000001), more(-1000001),
		{Op: api.Near, N: -1}, {Op: api.Near, N: 8000001}, {Op: api.Near, At: 0.5}, and(api.Pred{}), or(star, not()), or(slices.Repeat([]api.Pred{star}, 30)...), not(not(not(not(not(not(star)))))), bush(60),
	}
}

// bush is a filter with far more parts than can be gone through, as its Kids share memory.
func bush(levels int) api.Pred {
	p := star
	for range levels {
		p = and(p, p)
	}
	return p
}

// copyFilter is p in memory of its own.
func copyFilter(p api.Pred) api.Pred {
	kids := p.Kids
	p.Kids = nil
	for _, kid := range kids {
		p.Kids = append(p.Kids, copyFilter(kid))
	}
	return p
}

// copyOf is s in memory of its own.
func copyOf(s api.State) api.State {
	l := s.K.L
	s.F, s.Store, s.Out, s.K.L = copyFilter(s.F), row(s.Store...), row(s.Out...), nil
	for _, f := range l {
		s.K.L = append(s.K.L, frag(f.Vec, f.Ids...))
	}
	return s
}

// room is l in memory of its own, with some behind it.
func room[T any](l []T, fill T) []T {
	return slices.Concat(l, []T{fill, fill, fill})[: len(l) : len(l)+3]
}

// roomyFilter is p in memory of its own, with room behind all Kids.
func roomyFilter(p api.Pred) api.Pred {
	p.Kids = room(p.Kids, less(77))
	for i, kid := range p.Kids {
		p.Kids[i] = roomyFilter(kid)
	}
	return p
}

// roomy is s in memory of its own, with room behind all its lists.
func roomy(s api.State) api.State {
	s.F, s.Store, s.Out = roomyFilter(s.F), room(s.Store, made("room", 77, 7, 7, 7)), room(s.Out, made("room", 78, 7, 7, 7))
	s.K.L = room(s.K.L, frag(api.Vec{7, 7}, "room"))
	for i, f := range s.K.L {
		s.K.L[i].Ids = room(f.Ids, "room")
	}
	return s
}

// full is l with what stands behind it, too.
func full[T any](l []T) []T { return l[:cap(l)] }

// wholeFilter is p, in memory of its own, with what stands behind its Kids, too.
func wholeFilter(p api.Pred) api.Pred {
	p.Kids = slices.Clone(full(p.Kids))
	for i, kid := range p.Kids {
		p.Kids[i] = wholeFilter(kid)
	}
	return p
}

// whole is s, in memory of its own, with what stands behind its lists, too.
func whole(s api.State) api.State {
	s.F, s.Store, s.Out, s.K.L = wholeFilter(s.F), slices.Clone(full(s.Store)), slices.Clone(full(s.Out)), slices.Clone(full(s.K.L))
	for i, f := range s.K.L {
		s.K.L[i].Ids = slices.Clone(full(f.Ids))
	}
	return s
}

// filterMemory tells each place in memory that p has.
func filterMemory(p api.Pred) []any {
	var l []any
	for i := range full(p.Kids) {
		l = append(append(l, &full(p.Kids)[i]), filterMemory(full(p.Kids)[i])...)
	}
	return l
}

// memory tells each place in memory that s has, behind its lists, too.
func memory(s api.State) []any {
	l := filterMemory(s.F)
	for _, items := range [][]api.Item{full(s.Store), full(s.Out)} {
		for i := range items {
			l = append(l, &items[i])
		}
	}
	for i := range full(s.K.L) {
		f := &full(s.K.L)[i]
		l = append(l, f)
		for j := range full(f.Ids) {
			l = append(l, &full(f.Ids)[j])
		}
	}
	return l
}

// scribble writes over all those places.
func scribble(l []any) {
	for _, p := range l {
		switch p := p.(type) {
		case *api.Pred:
			*p = api.Pred{Op: 99, N: 99}
		case *api.Item:
			*p = dead(made("over", 99, 9, 9, 99))
		case *api.Frag:
			*p = frag(api.Vec{99, 99}, "over", "over")
		case *string:
			*p = "over"
		}
	}
}

// alikeBits tells whether both are the same bit by bit: no number is like itself here, and -0 isn't 0.
func alikeBits(a, b complex128) bool {
	bits := func(c complex128) [2]uint64 { return [2]uint64{math.Float64bits(real(c)), math.Float64bits(imag(c))} }
	return bits(a) == bits(b)
}

// alike tells whether both are one and the same item.
func alike(a, b api.Item) bool {
	at := alikeBits(a.At, b.At)
	a.At, b.At = 0, 0
	return at && a == b
}

// alikeFilters tells whether both are written alike, where nil and empty are one.
func alikeFilters(a, b api.Pred) bool {
	return a.Op == b.Op && a.Text == b.Text && a.N == b.N && alikeBits(a.At, b.At) && slices.EqualFunc(a.Kids, b.Kids, alikeFilters)
}

// written tells whether both are written alike, where nil and empty are one.
func written(a, b api.State) bool {
	numbers := func(s api.State) [4]int { return [4]int{s.R, s.Count, s.Clock, s.Epoch} }
	return numbers(a) == numbers(b) && alikeFilters(a.F, b.F) && slices.EqualFunc(a.Store, b.Store, alike) && slices.EqualFunc(a.Out, b.Out, alike) &&
		a.K.Star == b.K.Star && slices.EqualFunc(a.K.L, b.K.L, func(f, g api.Frag) bool { return f.Vec == g.Vec && slices.Equal(f.Ids, g.Ids) })
}

// all tells the items of s, those of Store first.
func all(s api.State) []api.Item { return slices.Concat(s.Store, s.Out) }

// broken tells the chapter's reasons for which s may not be, each by itself.
func broken(s api.State) []string {
	var l []string
	say := func(ok bool, reason string) {
		if !ok && !slices.Contains(l, reason) {
			l = append(l, reason)
		}
	}
	say(s.R >= 1 && s.R <= 8, "R")
	say(pred.May(s.F), "F")
	say(list.May(s.Store), "Store")
	say(list.May(s.Out), "Out")
	say(len(all(s)) <= 40, "many")
	for _, x := range s.Store {
		say(eval.Has(s.F, x), "one of Store that F hasn't")
		say(!slices.ContainsFunc(s.Out, func(y api.Item) bool { return x.Id == y.Id }), "both")
	}
	for _, x := range s.Out {
		say(!eval.Has(s.F, x), "one of Out that F has")
	}
	say(know.May(s.K), "K")
	for _, x := range all(s) {
		say(know.Has(s.K, x.Id, x.Ver), "unknown")
		say(x.Stamp <= s.Clock, "Stamp")
	}
	say(s.Count >= 0 && s.Count <= 1000, "Count")
	say(s.Clock >= 0 && s.Clock <= 1000000, "Clock")
	say(s.Epoch >= 0 && s.Epoch <= 1000000, "Epoch")
	if s.R >= 1 && s.R <= 8 {
		// Counts of 0 and below are no versions.
		say(s.K.Star[s.R-1] <= max(s.Count, 0), "ahead in Star")
		for _, f := range s.K.L {
			say(f.Vec[s.R-1] <= max(s.Count, 0) || len(f.Ids) == 0, "ahead in a piece")
		}
	}
	return l
}

// deed is a call that changes a state.
type deed struct {
	what, id, kind string
	num            int
	at             complex128
	f              api.Pred
}

func creates(id string, num int) deed {
	return deed{what: "Create", id: id, kind: "pot", num: num, at: 3 - 4i}
}
func updates(id string, num int) deed {
	return deed{what: "Update", id: id, kind: "pot", num: num, at: 3 - 4i}
}
func deletes(id string) deed { return deed{what: "Delete", id: id} }
func turns(f api.Pred) deed  { return deed{what: "Filter", f: f} }

// do lets s do d.
func do(s api.State, d deed) (api.State, error) {
	switch d.what {
	case "Create":
		return local.Create(s, d.id, d.kind, d.num, d.at)
	case "Update":
		return local.Update(s, d.id, d.kind, d.num, d.at)
	case "Delete":
		return local.Delete(s, d.id)
	}
	return local.Filter(s, d.f)
}

// split tells those of m that f has, and the others, by rising Ids.
func split(m map[string]api.Item, f api.Pred) (has, others []api.Item) {
	for _, id := range slices.Sorted(maps.Keys(m)) {
		if x := m[id]; eval.Has(f, x) {
			has = append(has, x)
		} else {
			others = append(others, x)
		}
	}
	return has, others
}

// byId tells the items of s by their Ids.
func byId(s api.State) map[string]api.Item {
	m := map[string]api.Item{}
	for _, x := range all(s) {
		m[x.Id] = x
	}
	return m
}

// fault tells the error of d, and 0 if there is none, sentence by sentence.
func fault(s api.State, d deed) api.Code {
	old, there := byId(s)[d.id]
	x := api.Item{Id: d.id, Ver: api.Ver{R: 8, C: 1000}, Stamp: 1000000, Kind: d.kind, Num: d.num, At: d.at}
	if d.what == "Filter" {
		if !pred.May(d.f) || s.F.Op == 1 && d.f.Op != 1 {
			return 1
		} else if s.Epoch == 1000000 {
			return 5
		}
		return 0
	}
	if d.what == "Delete" && !item.Name(d.id) || d.what != "Delete" && !item.May(x) {
		return 1
	}
	if d.what == "Create" {
		if there && !old.Dead {
			return 3
		} else if !there && len(all(s)) == 40 {
			return 4
		}
	} else if !there || old.Dead {
		return 2
	}
	if s.Count == 1000 || s.Clock == 1000000 {
		return 5
	}
	return 0
}

// wanted tells what s is behind d, sentence by sentence; s may be.
func wanted(s api.State, d deed) (api.State, api.Code) {
	if c := fault(s, d); c != 0 {
		return s, c
	}
	m := byId(s)
	if d.what == "Filter" {
		s.Epoch, s.F, s.K = s.Epoch+1, d.f, api.Know{}
		for _, x := range m {
			s.K = know.With(s.K, x.Id, x.Ver)
		}
	} else {
		s.Count, s.Clock = s.Count+1, s.Clock+1
		x := api.Item{Id: d.id, Kind: d.kind, Num: d.num, At: d.at}
		if d.what == "Delete" {
			x = dead(m[d.id])
		}
		x.Ver, x.Stamp = api.Ver{R: s.R, C: s.Count}, s.Clock
		m[d.id] = x
		s.K = know.Own(s.K, x.Id, x.Ver)
	}
	s.Store, s.Out = split(m, s.F)
	return s, 0
}

// isCode tells whether err is that very number, and nil if it is 0.
func isCode(err error, c api.Code) bool {
	if c == 0 {
		return err == nil
	}
	return err != nil && err == error(c)
}

// checkMemory asks that a call changes nothing of what it is handed, and that what it tells is new memory.
func checkMemory(t *testing.T, what string, wasS api.State, wasF api.Pred, call func(s api.State, f api.Pred) api.State) {
	t.Helper()
	s, f := roomy(wasS), roomyFilter(wasF)
	untouched := func() bool {
		return written(whole(s), whole(roomy(wasS))) && alikeFilters(wholeFilter(f), wholeFilter(roomyFilter(wasF)))
	}
	got := call(s, f)
	if !untouched() {
		t.Fatalf("%s of %+v and %+v changed them: %+v and %+v", what, wasS, wasF, whole(s), wholeFilter(f))
	}
	taken := map[any]bool{}
	handed := append(memory(s), filterMemory(f)...)
	for _, p := range handed {
		taken[p] = true
	}
	for _, p := range memory(got) {
		if taken[p] {
			t.Fatalf("%s of %+v and %+v told %+v, of which two lists, or one and one that was handed in, share memory", what, wasS, wasF, got)
		}
		taken[p] = true
	}
	was := copyOf(got)
	scribble(handed)
	if !written(got, was) {
		t.Fatalf("%s of %+v and %+v told %+v, and tells %+v once they are written over", what, wasS, wasF, was, got)
	}
	// The other way round: what is told is written over; and nothing is kept, so that the same is told once more.
	s, f = roomy(wasS), roomyFilter(wasF)
	scribble(memory(call(s, f)))
	if !untouched() || !written(call(s, f), was) {
		t.Fatalf("%s of %+v and %+v isn't the same once what it told is written over", what, wasS, wasF)
	}
}

// check lets s do d, and asks for that state and that error, and all that holds of each deed of a state that may be: P9.3, P9.4.
func check(t *testing.T, s api.State, d deed, want api.State, c api.Code) api.State {
	t.Helper()
	got, err := do(copyOf(s), d)
	if !isCode(err, c) || !written(got, want) {
		t.Fatalf("%+v of %+v = %+v, %v, want %+v, %v", d, s, got, err, want, c)
	}
	if c != 0 && !written(got, s) {
		t.Fatalf("%+v of %+v = %+v, %v", d, s, got, err)
	}
	if l := broken(got); len(l) > 0 || !local.May(got) {
		t.Fatalf("%+v of %+v = %+v, which may not be: %v", d, s, got, l)
	}
	if c == 0 && d.what != "Filter" {
		checkMade(t, s, d, got)
	}
	checkMemory(t, d.what, s, d.f, func(s api.State, f api.Pred) api.State {
		d.f = f
		got, _ := do(s, d)
		return got
	})
	return got
}

// checkMade asks of the version that d made of s, sentence by sentence.
func checkMade(t *testing.T, s api.State, d deed, got api.State) {
	t.Helper()
	var l []api.Item
	for _, x := range all(got) {
		if x.Id == d.id {
			l = append(l, x)
		}
	}
	v := api.Ver{R: s.R, C: s.Count + 1}
	if len(l) != 1 || l[0].Ver != v || l[0].Stamp != s.Clock+1 || l[0].Dead != (d.what == "Delete") || got.Count != s.Count+1 || got.Clock != s.Clock+1 {
		t.Fatalf("%+v of %+v made %+v: %+v", d, s, l, got)
	}
	_, in := list.Get(got.Store, d.id)
	if in != eval.Has(s.F, l[0]) || !know.Has(got.K, d.id, v) || know.Has(s.K, d.id, v) {
		t.Fatalf("%+v of %+v: %+v stands in Store: %v; %+v", d, s, l[0], in, got.K)
	}
}

// checkFault lets s do d, and asks for that error.
func checkFault(t *testing.T, s api.State, d deed, c api.Code) {
	t.Helper()
	if c == 0 {
		t.Fatal("no error is asked for")
	}
	check(t, s, d, s, c)
}

// checkGoes lets s do d, and asks that there is no error, and for what the chapter's sentences say.
func checkGoes(t *testing.T, s api.State, d deed) api.State {
	t.Helper()
	want, c := wanted(s, d)
	if c != 0 {
		t.Fatalf("%+v of %+v is an error", d, s)
	}
	return check(t, s, d, want, 0)
}

// checkMay asks whether s may be: it may, if no reason is named, and may not for that reason alone, if one is.
func checkMay(t *testing.T, s api.State, reasons ...string) {
	t.Helper()
	if l := broken(s); !slices.Equal(l, reasons) {
		t.Errorf("%+v may not be by %q, not by %q", s, l, reasons)
	}
	handed := roomy(s)
	if got := local.May(handed); got != (len(reasons) == 0) {
		t.Errorf("May(%+v) = %v, want %v: %q", s, got, !got, reasons)
	}
	if !written(whole(handed), whole(roomy(s))) {
		t.Errorf("May changed %+v", s)
	}
}

func TestMayOfStates(t *testing.T) { // P9.1
	checkMay(t, base())
	checkMay(t, gap())
	for r := 1; r <= 8; r++ {
		for _, f := range filters() {
			checkMay(t, empty(r, f))
		}
	}
	// Each number at both its ends, with nothing that stands there and with much.
	for _, count := range []int{0, 1, 999, 1000} {
		for _, clock := range []int{0, 1, 999999, 1000000} {
			for _, epoch := range []int{0, 1, 999999, 1000000} {
				checkMay(t, with(empty(8, none), func(s *api.State) { s.Count, s.Clock, s.Epoch = count, clock, epoch }))
			}
		}
	}
	for i, change := range []func(s *api.State){
		func(s *api.State) { s.Count = 1000 },
		func(s *api.State) { s.Clock = 1000000 },
		func(s *api.State) { s.Epoch = 0 },
		func(s *api.State) { s.Epoch = 1000000 },
		// What others made is known beyond its Count, and beyond what stands there.
		func(s *api.State) { s.K.Star = api.Vec{1000, 1000, 2, 1000, 1000, 1000, 1000, 1000}; s.K.L = nil },
		func(s *api.State) { s.K.L = append(s.K.L, frag(api.Vec{0, 0, 0, 9}, "zz")) },
		// Of its own versions all that it made may be known, of all items or of some; or none but those of its items.
		func(s *api.State) {
			s.K.Star[2] = 0
			s.K.L = []api.Frag{frag(api.Vec{0, 0, 2}, "a", "b"), frag(api.Vec{2}, "c"), frag(api.Vec{0, 7}, "d")}
		},
		func(s *api.State) { s.Count = 3; s.K.L = append(s.K.L, frag(api.Vec{0, 0, 3}, "zz")) },
		// Items of other replicas with counts and stamps beyond its own; a stamp that is just its Clock.
		func(s *api.State) {
			s.Clock = 900
			s.Store = list.Put(s.Store, made("x", 1, 8, 999, 900))
			s.K.Star[7] = 999
		},
		// One version of two items, one stamp of all of them.
		func(s *api.State) { s.Out = list.Put(s.Out, made("e", 9, 2, 7, 9)) },
		func(s *api.State) { s.Store, s.Out = nil, nil },
		func(s *api.State) { s.Store, s.Out = []api.Item{}, []api.Item{}; s.K.L = []api.Frag{} },
		func(s *api.State) { s.Store = nil },
		func(s *api.State) { s.Out = nil },
		func(s *api.State) { s.F, s.Store, s.Out = star, list.Both(s.Store, s.Out), nil },
		func(s *api.State) { s.F, s.Store, s.Out = and(), list.Both(s.Store, s.Out), nil },
		func(s *api.State) { s.F, s.Store, s.Out = none, nil, list.Both(s.Store, s.Out) },
		func(s *api.State) { s.F, s.Store, s.Out = more(5), s.Out, s.Store },
	} {
		s := with(base(), change)
		checkMay(t, s)
		if t.Failed() {
			t.Fatal(i)
		}
	}
	for _, n := range [][2]int{{40, 0}, {0, 40}, {20, 20}, {39, 1}, {1, 39}, {13, 27}, {39, 0}, {0, 1}} {
		checkMay(t, filled(n[0], n[1]))
	}
}

func TestMayNotByNumbers(t *testing.T) { // P9.1
	for _, r := range []int{0, 9, -1, 10, 256 + 3, 1<<32 + 3, math.MinInt, math.MaxInt} {
		checkMay(t, with(base(), func(s *api.State) { s.R = r }), "R")
		checkMay(t, empty(r, star), "R")
	}
	for _, n := range []int{1001, 1002, 1 << 32, math.MaxInt} {
		checkMay(t, with(base(), func(s *api.State) { s.Count = n }), "Count")
	}
	for _, n := range []int{1000001, 1000002, 1 << 32, math.MaxInt} {
		checkMay(t, with(base(), func(s *api.State) { s.Clock = n }), "Clock")
		checkMay(t, with(base(), func(s *api.State) { s.Epoch = n }), "Epoch")
	}
	for _, n := range []int{-1, -2, math.MinInt} {
		checkMay(t, with(empty(1, star), func(s *api.State) { s.Count = n }), "Count")
		checkMay(t, with(empty(1, star), func(s *api.State) { s.Clock = n }), "Clock")
		checkMay(t, with(base(), func(s *api.State) { s.Epoch = n }), "Epoch")
	}
}

func TestMayNotByFilters(t *testing.T) { // P9.1
	for i, f := range oddFilters() {
		if local.May(empty(2, f)) {
			t.Errorf("a state may be with odd filter %d", i)
		}
	}
	// With all items where they would have to stand, and with none.
	for _, f := range []api.Pred{
		and(less(5), api.Pred{Op: api.Star, N: 1}), not(more(5), star), not(more(5), more(5)), and(slices.Repeat([]api.Pred{less(5)}, 30)...),
		or(or(or(or(or(or(less(5)))))), kind("Pot")), and(and(and(and(and(and(less(5))))))),
	} {
		checkMay(t, with(base(), func(s *api.State) { s.F = f }), "F")
		checkMay(t, empty(2, f), "F")
	}
}

// oddItems are versions of x that may not be, each for one reason, which leaves its Num, Id and Ver as they are.
func oddItems(x api.Item) []api.Item {
	var l []api.Item
	put := func(change func(y *api.Item)) {
		y := x
		change(&y)
		l = append(l, y)
	}
	for _, s := range oddTexts() {
		put(func(y *api.Item) { y.Kind = s })
	}
	for _, at := range oddPlaces() {
		put(func(y *api.Item) { y.At = at })
	}
	for _, n := range []int{0, -1, math.MinInt} {
		put(func(y *api.Item) { y.Stamp = n })
	}
	return l
}

func TestMayNotByItems(t *testing.T) { // P9.1
	for i := range 2 {
		for _, x := range oddItems(base().Store[i]) {
			checkMay(t, with(base(), func(s *api.State) { s.Store[i] = x }), "Store")
		}
		for _, x := range oddItems(base().Out[i]) {
			checkMay(t, with(base(), func(s *api.State) { s.Out[i] = x }), "Out")
		}
	}
	checkMay(t, with(base(), func(s *api.State) { s.Store[0].Num = -1000001 }), "Store")
	checkMay(t, with(base(), func(s *api.State) { s.Out[1].Num = 1000001 }), "Out")
	for _, id := range append(oddTexts()[1:3], "") {
		// What Star has is known of an Id that may not be, too.
		checkMay(t, with(base(), func(s *api.State) { s.Store[0].Id = id }), "Store")
		checkMay(t, with(base(), func(s *api.State) { s.Out[0].Id = id }), "Out")
	}
	// Ids that fall, and one that stands there twice.
	checkMay(t, with(base(), func(s *api.State) { slices.Reverse(s.Store) }), "Store")
	checkMay(t, with(base(), func(s *api.State) { slices.Reverse(s.Out) }), "Out")
	checkMay(t, with(base(), func(s *api.State) { s.Store = row(s.Store[0], s.Store[0], s.Store[1]) }), "Store")
	checkMay(t, with(base(), func(s *api.State) { s.Out = row(s.Out[0], s.Out[1], s.Out[1]) }), "Out")
}

func TestMayNotByWhereItemsStand(t *testing.T) { // P9.1
	// An Id in both, as two versions, first, last and in between.
	for _, id := range []string{"a", "c"} {
		for _, other := range []api.Item{made(id, 9, 3, 2, 2), dead(made(id, 5, 1, 1, 1))} {
			checkMay(t, with(base(), func(s *api.State) { s.Out = list.Put(s.Out, other) }), "both")
		}
	}
	for _, id := range []string{"b", "d"} {
		checkMay(t, with(base(), func(s *api.State) { s.Store = list.Put(s.Store, made(id, 1, 3, 2, 2)) }), "both")
	}
	// More than 40.
	for _, n := range [][2]int{{41, 0}, {0, 41}, {20, 21}, {40, 1}, {1, 40}, {40, 40}, {100, 0}} {
		checkMay(t, filled(n[0], n[1]), "many")
	}
	// What its filter asks is asked of each, Dead ones, too.
	for i := range 2 {
		checkMay(t, with(base(), func(s *api.State) { s.Store[i].Num = 5 }), "one of Store that F hasn't")
		checkMay(t, with(base(), func(s *api.State) { s.Out[i].Num = 4 }), "one of Out that F has")
	}
	for i := range 20 {
		checkMay(t, with(filled(20, 20), func(s *api.State) { s.Store[i].Num = 5 }), "one of Store that F hasn't")
		checkMay(t, with(filled(20, 20), func(s *api.State) { s.Out[i].Num = 4 }), "one of Out that F has")
	}
	checkMay(t, with(base(), func(s *api.State) { s.Out, s.F = nil, none }), "one of Store that F hasn't")
	checkMay(t, with(base(), func(s *api.State) { s.Store, s.F = nil, star }), "one of Out that F has")
}

func TestMayNotByWhatIsKnown(t *testing.T) { // P9.1
	for _, change := range []func(k *api.Know){
		func(k *api.Know) { k.Star[7] = 1001 },
		func(k *api.Know) { k.Star[7] = -1 },
		func(k *api.Know) { k.L[1].Vec[7] = 1001 },
		func(k *api.Know) { k.L[1].Vec[7] = -1 },
		func(k *api.Know) { k.L[1].Vec[0] = 1 },
		func(k *api.Know) { k.L[1].Vec[2] = 2 },
		func(k *api.Know) { slices.Reverse(k.L) },
		func(k *api.Know) { slices.Reverse(k.L[1].Ids) },
		func(k *api.Know) { k.L[1].Ids = []string{"d", "d", "e"} },
		func(k *api.Know) { k.L[1].Ids[1] = "eE" },
		func(k *api.Know) { k.L[1].Ids[1] = "eeeeeeeee" },
		func(k *api.Know) { k.L = append(k.L, frag(api.Vec{0, 0, 0, 1})) },
		func(k *api.Know) { k.L = append(k.L, frag(api.Vec{}, "z")) },
		func(k *api.Know) { k.L = append(k.L, frag(api.Vec{0, 7}, "z")) },
		func(k *api.Know) { k.L = append(k.L, frag(api.Vec{9}, "e")) },
	} {
		checkMay(t, with(base(), func(s *api.State) { change(&s.K) }), "K")
	}
	// One version that isn't known: its own and another's, by Star and by a piece, in Store and in Out.
	for _, change := range []func(s *api.State){
		func(s *api.State) { s.Store[0].Ver.C = 3 },
		func(s *api.State) { s.Store[0].Ver.R = 4 },
		func(s *api.State) { s.Store[1].Ver.C = 3 },
		func(s *api.State) { s.Out[0].Ver.C = 1000 },
		func(s *api.State) { s.Out[1].Ver = api.Ver{R: 1, C: 2} },
		func(s *api.State) { s.Out[1].Ver.C = 8 },
		func(s *api.State) { s.K.Star[2] = 1 },
		func(s *api.State) { s.K.L = s.K.L[1:] },
		func(s *api.State) { s.K.L = s.K.L[:1] },
		func(s *api.State) { s.K.L[1].Ids = []string{"e"} },
		func(s *api.State) { s.K.L[0].Ids = []string{"cc"} },
		func(s *api.State) { s.K.L[1].Vec[1] = 6 },
		func(s *api.State) { s.Store[1].Id = "bb" },
		func(s *api.State) { s.K = api.Know{} },
	} {
		checkMay(t, with(base(), change), "unknown")
	}
	for i := range 20 {
		checkMay(t, with(filled(20, 20), func(s *api.State) { s.Store[i].Ver.C = 41 }), "unknown")
		checkMay(t, with(filled(20, 20), func(s *api.State) { s.Out[i].Ver.R = 4 }), "unknown")
	}
}

func TestMayNotByWhatIsAhead(t *testing.T) { // P9.1
	// A Stamp above Clock.
	for i := range 2 {
		for _, stamp := range []int{10, 11, 1000000} {
			checkMay(t, with(base(), func(s *api.State) { s.Store[i].Stamp = stamp }), "Stamp")
			checkMay(t, with(base(), func(s *api.State) { s.Out[i].Stamp = stamp }), "Stamp")
		}
	}
	checkMay(t, with(base(), func(s *api.State) { s.Clock = 8 }), "Stamp")
	checkMay(t, with(base(), func(s *api.State) { s.Clock = 3; s.Out = nil }), "Stamp")
	checkMay(t, with(base(), func(s *api.State) { s.Clock = 0 }), "Stamp")
	for r := 1; r <= 8; r++ {
		for _, count := range []int{0, 1, 999} {
			s := with(empty(r, star), func(s *api.State) { s.Count = count })
			// Of all items, and of one that stands nowhere.
			checkMay(t, with(s, func(s *api.State) { s.K.Star[r-1] = count + 1 }), "ahead in Star")
			checkMay(t, with(s, func(s *api.State) { s.K.Star[r-1] = 1000 }), "ahead in Star")
			var v api.Vec
			v[r-1] = count + 1
			checkMay(t, with(s, func(s *api.State) { s.K.L = []api.Frag{frag(v, "zz")} }), "ahead in a piece")
			checkMay(t, with(s, func(s *api.State) { s.K.Star[r-1] = count; s.K.L = []api.Frag{frag(v, "a", "zz")} }), "ahead in a piece")
			w := v
			w[r%8] = 5
			checkMay(t, with(s, func(s *api.State) { s.K.L = []api.Frag{frag(w, "y"), frag(v, "z")} }), "ahead in a piece")
			w[r-1] = 0
			checkMay(t, with(s, func(s *api.State) { s.K.L = []api.Frag{frag(w, "y"), frag(v, "z")} }), "ahead in a piece")
			checkMay(t, with(s, func(s *api.State) { s.K.L = []api.Frag{frag(v, "y"), frag(w, "z")} }), "ahead in a piece")
			// With one version more made it may be.
			for _, k := range []api.Know{know.Plain(api.Know{Star: v}), {L: []api.Frag{frag(v, "zz")}}} {
				checkMay(t, with(s, func(s *api.State) { s.Count, s.K = count+1, k }))
			}
			// The counts of others don't matter.
			checkMay(t, with(s, func(s *api.State) {
				s.K.Star[r%8] = 1000
				s.K.L = []api.Frag{frag(api.Vec{}, "zz")}
				s.K.L[0].Vec[(r+1)%8] = 1000
			}))
		}
	}
	checkMay(t, with(base(), func(s *api.State) { s.K.Star[2] = 3 }), "ahead in Star")
	checkMay(t, with(base(), func(s *api.State) { s.K.L[1].Vec[2] = 3 }), "ahead in a piece")
	checkMay(t, with(base(), func(s *api.State) { s.Count = 1 }), "ahead in Star")
}

func TestNew(t *testing.T) { // P9.1, P9.3
	for _, r := range []int{math.MinInt, -8, -1, 0, 1, 2, 3, 4, 5, 6, 7, 8, 9, 10, 256 + 1, 1<<32 + 1, math.MaxInt} {
		for _, f := range filters() {
			s, err := local.New(r, f)
			if r < 1 || r > 8 {
				if !isCode(err, api.ErrArg) || !written(s, api.State{}) {
					t.Errorf("New(%d, %+v) = %+v, %v", r, f, s, err)
				}
				continue
			}
			// The filter is told as it is, not made plain.
			if err != nil || !written(s, empty(r, f)) || !local.May(s) || len(local.Read(s)) > 0 {
				t.Errorf("New(%d, %+v) = %+v, %v", r, f, s, err)
			}
			checkMemory(t, "New", api.State{}, f, func(_ api.State, f api.Pred) api.State {
				s, _ := local.New(r, f)
				return s
			})
		}
		for i, f := range oddFilters() {
			if s, err := local.New(r, f); !isCode(err, api.ErrArg) || !written(s, api.State{}) {
				t.Errorf("New(%d, odd filter %d) = %v", r, i, err)
			}
		}
	}
	minus := api.Pred{Op: api.Star, At: complex(minus0, minus0)}
	if s, err := local.New(1, minus); err != nil || !written(s, empty(1, minus)) {
		t.Errorf("New with a filter of -0 = %+v, %v", s, err)
	}
	// The document's example.
	s, err := local.Create(empty(1, star), "a", "", 0, 0)
	if l := local.Read(s); err != nil || len(l) != 1 || l[0] != (api.Item{Id: "a", Ver: api.Ver{R: 1, C: 1}, Stamp: 1}) {
		t.Errorf("Create of a = %+v, %v", s, err)
	}
}

// TestVersions asks for each item that stands somewhere, and for others, what all of the state is then: P9.1.
func TestVersions(t *testing.T) {
	a, c, b, d := base().Store[0], base().Store[1], base().Out[0], base().Out[1]
	x := func(id string, num int) api.Item { return made(id, num, 3, 3, 10) }
	for _, v := range []struct {
		d          deed
		store, out []api.Item
	}{
		{creates("e", 4), row(a, c, x("e", 4)), row(b, d)},
		{creates("e", 5), row(a, c), row(b, d, x("e", 5))},
		{creates("aa", -7), row(a, x("aa", -7), c), row(b, d)},
		{creates("ba", 99), row(a, c), row(b, x("ba", 99), d)},
		{creates("c", 1), row(a, x("c", 1)), row(b, d)},
		{creates("c", 7), row(a), row(b, x("c", 7), d)},
		{creates("d", 0), row(a, c, x("d", 0)), row(b)},
		{creates("d", 5), row(a, c), row(b, x("d", 5))},
		{updates("a", 2), row(x("a", 2), c), row(b, d)},
		{updates("a", 3), row(x("a", 3), c), row(b, d)},
		{updates("a", 5), row(c), row(x("a", 5), b, d)},
		{updates("b", 4), row(a, x("b", 4), c), row(d)},
		{updates("b", 6), row(a, c), row(x("b", 6), d)},
		{deletes("a"), row(dead(x("a", 3)), c), row(b, d)},
		{deletes("b"), row(a, c), row(dead(x("b", 5)), d)},
	} {
		want := with(base(), func(s *api.State) { s.Store, s.Out, s.Count, s.Clock, s.K.Star[2] = v.store, v.out, 3, 10, 3 })
		check(t, base(), v.d, want, 0)
		// What Star doesn't have up to there goes into a piece of that Id.
		for _, l := range [][]api.Item{want.Store, want.Out} {
			for i := range l {
				if l[i].Ver == (api.Ver{R: 3, C: 3}) {
					l[i].Ver.C = 4
				}
			}
		}
		want.Count, want.K = 4, know.With(gap().K, v.d.id, api.Ver{R: 3, C: 4})
		check(t, gap(), v.d, want, 0)
	}
	// Written out, where the piece is a new one, and where the Id has one already.
	if s, _ := local.Create(gap(), "e", "", 0, 0); !slices.EqualFunc(s.K.L, []api.Frag{frag(api.Vec{2}, "c"), frag(api.Vec{0, 7}, "d"), frag(api.Vec{0, 7, 4}, "e")}, func(f, g api.Frag) bool {
		return f.Vec == g.Vec && slices.Equal(f.Ids, g.Ids)
	}) || s.K.Star != (api.Vec{1, 0, 2}) {
		t.Errorf("Create of e made known %+v", s.K)
	}
	if s, _ := local.Delete(gap(), "a"); len(s.K.L) != 3 || s.K.L[0].Vec != (api.Vec{0, 0, 4}) || !slices.Equal(s.K.L[0].Ids, []string{"a"}) {
		t.Errorf("Delete of a made known %+v", s.K)
	}
}

// TestErrors asks for the error of each call, by where the Id stands: P9.1, P9.3.
func TestErrors(t *testing.T) {
	for _, s := range []api.State{base(), gap()} {
		for _, num := range []int{4, 5} {
			checkFault(t, s, creates("a", num), api.ErrInUse)
			checkFault(t, s, creates("b", num), api.ErrInUse)
			for _, id := range []string{"c", "d", "e", "aa", "zzzzzzzz"} {
				checkGoes(t, s, creates(id, num))
				checkFault(t, s, updates(id, num), api.ErrNone)
				checkFault(t, s, deletes(id), api.ErrNone)
			}
			for _, id := range []string{"a", "b"} {
				checkGoes(t, s, updates(id, num))
				checkGoes(t, s, deletes(id))
			}
		}
	}
	for _, id := range append(oddTexts(), "") {
		for _, s := range []api.State{base(), empty(1, star), filled(20, 20)} {
			checkFault(t, s, creates(id, 1), api.ErrArg)
			checkFault(t, s, updates(id, 1), api.ErrArg)
			checkFault(t, s, deletes(id), api.ErrArg)
		}
	}
}

// TestAttributes asks at each edge of what items may be: P9.1.
func TestAttributes(t *testing.T) {
	try := func(change func(d *deed), c api.Code) {
		t.Helper()
		for _, s := range []api.State{base(), gap()} {
			for _, d := range []deed{creates("e", 1), creates("c", 9), creates("d", 1), updates("a", 1), updates("b", 9)} {
				if change(&d); c == 0 {
					checkGoes(t, s, d)
				} else {
					checkFault(t, s, d, c)
				}
			}
		}
	}
	for _, s := range []string{"", "a", "z", "kind", "zzzzzzzz"} {
		try(func(d *deed) { d.kind = s }, 0)
	}
	for _, s := range oddTexts() {
		try(func(d *deed) { d.kind = s }, api.ErrArg)
	}
	for _, n := range []int{-1000000, -999999, 0, 4, 5, 999999, 1000000} {
		try(func(d *deed) { d.num = n }, 0)
	}
	for _, n := range []int{-1000001, 1000001, math.MinInt, math.MaxInt, 1 << 32} {
		try(func(d *deed) { d.num = n }, api.ErrArg)
	}
	for _, at := range []complex128{0, 1000 + 1000i, -1000 - 1000i, 1000i, 3 - 4i, complex(minus0, minus0), complex(minus0, 7)} {
		try(func(d *deed) { d.at = at }, 0)
	}
	for _, at := range oddPlaces() {
		try(func(d *deed) { d.at = at }, api.ErrArg)
	}
	for _, id := range []string{"e", "ee", "eeeeeeee"} {
		checkGoes(t, base(), creates(id, 1))
	}
}

// TestWhereVersionsStand asks it of filters of each sort, and of each replica: P9.1.
func TestWhereVersionsStand(t *testing.T) {
	for r := 1; r <= 8; r++ {
		for _, f := range filters() {
			s := empty(r, f)
			for i, d := range []deed{
				{what: "Create", id: "b", kind: "", num: 4, at: 3 - 4i}, {what: "Update", id: "b", kind: "pot", num: 5, at: -1000i}, {what: "Create", id: "a", kind: "pot", num: -1000000, at: 7},
				{what: "Update", id: "b", kind: "cup", num: 1000000, at: 1000i}, deletes("b"), {what: "Update", id: "a", kind: "", num: 5, at: 3 - 5i}, deletes("a"),
				{what: "Create", id: "a", kind: "pot", num: 4, at: 3 - 4i}, {what: "Create", id: "b", kind: "pot", num: 6, at: 0},
			} {
				s = checkGoes(t, s, d)
				if s.Count != i+1 || s.Clock != i+1 || s.K.Star[r-1] != i+1 || len(s.K.L) > 0 {
					t.Fatalf("%+v: %+v", d, s)
				}
			}
		}
	}
}

func TestRoom(t *testing.T) { // P9.1
	for _, n := range []int{38, 39, 40} {
		for store := 0; store <= n; store += 1 + store%3 {
			s := filled(store, n-store)
			for _, id := range []string{"zzz", "a", "az", "mmm"} {
				for _, num := range []int{4, 5} {
					if n == 40 {
						checkFault(t, s, creates(id, num), api.ErrFull)
					} else if got := checkGoes(t, s, creates(id, num)); len(all(got)) != n+1 {
						t.Fatalf("%+v has %d items", got, n)
					}
				}
			}
			for i, x := range all(s) {
				if i%4 != 0 {
					continue
				}
				// One that is Dead makes room for itself, also where it moves.
				for _, num := range []int{4, 5} {
					if x.Dead {
						checkGoes(t, s, creates(x.Id, num))
						checkFault(t, s, updates(x.Id, num), api.ErrNone)
					} else {
						checkFault(t, s, creates(x.Id, num), api.ErrInUse)
						checkGoes(t, s, updates(x.Id, num))
					}
				}
				if !x.Dead {
					checkGoes(t, s, deletes(x.Id))
				}
			}
		}
	}
}

// ends are states of which no more versions can be made, by Count, by Clock, and by both.
func ends(s api.State) []api.State {
	star := with(s, func(s *api.State) { s.Count = 1000; s.K.Star[s.R-1] = 1000 })
	return []api.State{
		with(s, func(s *api.State) { s.Count = 1000 }), with(s, func(s *api.State) { s.Clock = 1000000 }),
		with(s, func(s *api.State) { s.Count, s.Clock = 1000, 1000000 }), star,
	}
}

func TestLastVersions(t *testing.T) { // P9.1
	deeds := []deed{creates("e", 4), creates("e", 5), creates("c", 4), creates("d", 5), updates("a", 1), updates("a", 9), updates("b", 1), deletes("a"), deletes("b")}
	for _, d := range deeds {
		for _, s := range ends(base()) {
			checkFault(t, s, d, api.ErrCount)
		}
		for _, n := range [][2]int{{998, 9}, {999, 9}, {999, 999999}, {2, 999998}, {2, 999999}, {998, 999998}} {
			s := with(base(), func(s *api.State) { s.Count, s.Clock = n[0], n[1] })
			if got := checkGoes(t, s, d); got.Count != n[0]+1 || got.Clock != n[1]+1 {
				t.Fatalf("%+v of %+v = %+v", d, s, got)
			}
			checkGoes(t, with(s, func(s *api.State) { s.K.Star[2] = s.Count }), d)
			// Epoch doesn't matter.
			checkGoes(t, with(s, func(s *api.State) { s.Epoch = 1000000 }), d)
		}
	}
	// A filter is had at both ends, too.
	for _, s := range ends(base()) {
		checkGoes(t, s, turns(more(5)))
	}
}

// TestTwoErrors asks which one of two is told: P9.1, P9.2, R1.
func TestTwoErrors(t *testing.T) {
	odd := func(d deed) deed { d.kind = "A"; return d }
	full := filled(20, 20)
	alive, gone := full.Store[0].Id, full.Store[0].Id
	for _, x := range all(full) {
		if x.Dead {
			gone = x.Id
		} else {
			alive = x.Id
		}
	}
	for _, v := range []struct {
		s api.State
		d deed
		c api.Code
	}{
		{base(), odd(creates("a", 1)), api.ErrArg},
		{base(), odd(creates("b", 1)), api.ErrArg},
		{full, odd(creates("zzz", 1)), api.ErrArg},
		{full, odd(creates(alive, 1)), api.ErrArg},
		{full, creates("ZZ", 1), api.ErrArg},
		{full, creates(alive, 1), api.ErrInUse},
		{base(), odd(updates("e", 1)), api.ErrArg},
		{base(), odd(updates("c", 1)), api.ErrArg},
		{base(), odd(updates("d", 1)), api.ErrArg},
		{base(), updates("E", 1), api.ErrArg},
		{base(), deletes(""), api.ErrArg},
	} {
		checkFault(t, v.s, v.d, v.c)
	}
	for _, s := range ends(base()) {
		for _, id := range []string{"a", "b", "c", "d", "e"} {
			checkFault(t, s, odd(creates(id, 1)), api.ErrArg)
			checkFault(t, s, odd(updates(id, 1)), api.ErrArg)
		}
		for _, id := range []string{"a", "b"} {
			checkFault(t, s, creates(id, 1), api.ErrInUse)
		}
		for _, id := range []string{"c", "d", "e"} {
			checkFault(t, s, updates(id, 1), api.ErrNone)
			checkFault(t, s, deletes(id), api.ErrNone)
		}
		checkFault(t, s, deletes("A"), api.ErrArg)
	}
	for _, s := range ends(full) {
		checkFault(t, s, odd(creates("zzz", 1)), api.ErrArg)
		checkFault(t, s, creates("zzz", 1), api.ErrFull)
		checkFault(t, s, creates(alive, 1), api.ErrInUse)
		checkFault(t, s, creates(gone, 1), api.ErrCount)
		checkFault(t, s, updates(gone, 1), api.ErrNone)
	}
	last := with(base(), func(s *api.State) { s.Epoch = 1000000 })
	checkFault(t, last, turns(not()), api.ErrArg)
	checkFault(t, last, turns(star), api.ErrCount)
	last = with(last, func(s *api.State) { s.F, s.Store, s.Out = star, list.Both(s.Store, s.Out), nil })
	checkFault(t, last, turns(less(5)), api.ErrArg)
	checkFault(t, last, turns(not()), api.ErrArg)
	checkFault(t, last, turns(star), api.ErrCount)
}

// TestFilter asks for all of the state, items that move both ways, Dead ones too, and what is known then: P9.2.
func TestFilter(t *testing.T) {
	a, c, b, d := base().Store[0], base().Store[1], base().Out[0], base().Out[1]
	pieces := []api.Frag{frag(api.Vec{0, 0, 1}, "a"), frag(api.Vec{0, 0, 2}, "b"), frag(api.Vec{2}, "c"), frag(api.Vec{0, 7}, "d")}
	for _, v := range []struct {
		f          api.Pred
		store, out []api.Item
	}{
		{star, row(a, b, c, d), nil}, {none, nil, row(a, b, c, d)}, {more(5), row(b, d), row(a, c)}, {less(5), row(a, c), row(b, d)}, {below5(), row(a, c), row(b, d)},
		{less(4), row(a), row(b, c, d)}, {less(6), row(a, b, c), row(d)}, {more(4), row(b, c, d), row(a)}, {more(9), row(d), row(a, b, c)},
		{not(less(5)), row(b, d), row(a, c)}, {or(none, more(1)), row(a, b, c, d), nil}, {and(), row(a, b, c, d), nil}, {or(), nil, row(a, b, c, d)}, {kind("cup"), nil, row(a, b, c, d)},
	} {
		for _, s := range []api.State{base(), gap()} {
			want := s
			want.F, want.Store, want.Out, want.K, want.Epoch = v.f, v.store, v.out, api.Know{L: pieces}, 5
			got := check(t, s, turns(v.f), want, 0)
			// What it knew beyond its items it knows no longer.
			for _, x := range []struct {
				id string
				v  api.Ver
			}{{"e", api.Ver{R: 2, C: 7}}, {"zz", api.Ver{R: 3, C: 1}}, {"a", api.Ver{R: 3, C: 2}}, {"d", api.Ver{R: 3, C: 1}}, {"c", api.Ver{R: 2, C: 1}}, {"a", api.Ver{R: 1, C: 1}}} {
				if know.Has(got.K, x.id, x.v) {
					t.Errorf("%+v knows %v of %q", got, x.v, x.id)
				}
			}
			// Its own next version goes on from Count, and stays its own one.
			checkGoes(t, got, creates("e", 5))
			if v.f.Op == api.Star {
				checkFault(t, got, turns(less(5)), api.ErrArg)
			} else {
				checkGoes(t, checkGoes(t, got, turns(below5())), turns(star))
			}
		}
	}
	// Of nothing, nothing is known; Ids with one and the same version are one piece.
	s := with(empty(4, none), func(s *api.State) {
		s.K = api.Know{Star: api.Vec{1, 2, 3, 4, 5}, L: []api.Frag{frag(api.Vec{9}, "a")}}
		s.Count = 4
	})
	check(t, s, turns(less(1)), api.State{R: 4, F: less(1), Count: 4, Epoch: 1}, 0)
	s = with(base(), func(s *api.State) { s.Out = list.Put(s.Out, made("e", 9, 2, 7, 9)) })
	want := with(s, func(s *api.State) {
		s.K, s.Epoch = api.Know{L: []api.Frag{pieces[0], pieces[1], pieces[2], frag(api.Vec{0, 7}, "d", "e")}}, 5
	})
	check(t, s, turns(s.F), want, 0)
	for _, n := range [][2]int{{0, 0}, {40, 0}, {0, 40}, {20, 20}, {1, 0}} {
		for _, f := range filters() {
			checkGoes(t, filled(n[0], n[1]), turns(f))
		}
	}
}

func TestFilterErrors(t *testing.T) { // P9.2, P9.3
	all := with(base(), func(s *api.State) { s.F, s.Store, s.Out = star, list.Both(s.Store, s.Out), nil })
	for i, f := range oddFilters() {
		for _, s := range []api.State{base(), gap(), all, empty(1, none)} {
			// Not by check: one of them has more parts than can be gone through.
			if got, err := local.Filter(copyOf(s), f); !isCode(err, api.ErrArg) || !written(got, s) {
				t.Errorf("Filter(%+v, odd filter %d) = %+v, %v", s, i, got, err)
			}
		}
	}
	for _, f := range filters() {
		checkGoes(t, base(), turns(f))
		// By Op: what has all, but isn't Star, is another one, on both sides.
		if f.Op == api.Star {
			checkGoes(t, all, turns(f))
		} else {
			checkFault(t, all, turns(f), api.ErrArg)
		}
	}
	checkGoes(t, with(all, func(s *api.State) { s.F = and() }), turns(less(5)))
	checkGoes(t, with(all, func(s *api.State) { s.F = and(star) }), turns(none))
	checkGoes(t, with(all, func(s *api.State) { s.F = or(star, none) }), turns(star))
	// From Star to Star all that was known by Star goes, too, and Epoch goes on.
	if got := checkGoes(t, all, turns(star)); got.Epoch != 5 || got.K.Star != (api.Vec{}) || len(got.K.L) != 4 {
		t.Errorf("from Star to Star: %+v", got)
	}
	for _, n := range []int{0, 1, 999998, 999999, 1000000} {
		for _, s := range []api.State{base(), all, empty(8, star)} {
			s.Epoch = n
			if n == 1000000 {
				checkFault(t, s, turns(star), api.ErrCount)
			} else if got := checkGoes(t, s, turns(star)); got.Epoch != n+1 || got.Count != s.Count || got.Clock != s.Clock {
				t.Errorf("Filter of %+v = %+v", s, got)
			}
		}
	}
	checkFault(t, with(base(), func(s *api.State) { s.Epoch = 1000000 }), turns(below5()), api.ErrCount)
}

// checkRead asks what s reads, and that it is new memory.
func checkRead(t *testing.T, s api.State, want []api.Item) {
	t.Helper()
	if got := local.Read(s); !slices.EqualFunc(got, want, alike) {
		t.Errorf("Read(%+v) = %+v, want %+v", s, got, want)
	}
	checkMemory(t, "Read", s, star, func(s api.State, _ api.Pred) api.State {
		return api.State{Store: local.Read(s)}
	})
}

func TestRead(t *testing.T) { // P9.2, P9.3
	checkRead(t, base(), base().Store[:1])
	checkRead(t, empty(1, star), nil)
	checkRead(t, with(base(), func(s *api.State) { s.Store = nil }), nil)
	checkRead(t, with(base(), func(s *api.State) { s.Store = s.Store[1:] }), nil)
	checkRead(t, with(base(), func(s *api.State) { s.Out = nil }), base().Store[:1])
	// Each sort of Dead ones and others, in order.
	for bits := range 1 << 5 {
		s := empty(1, star)
		var want []api.Item
		for i := range 5 {
			x := made(name(i), 7-i, 1, 9-i, 9-i)
			if bits>>i&1 == 1 {
				x = dead(x)
			} else {
				want = append(want, x)
			}
			s.Store = append(s.Store, x)
			s.Out = append(s.Out, made(name(i+9), 1, 1, 1, 1))
		}
		checkRead(t, s, want)
	}
	// What is read lasts over what is done then.
	s := base()
	for _, d := range []deed{updates("b", 1), creates("ab", 2), creates("d", 3), deletes("a"), creates("zz", 4), creates("aaa", 5)} {
		s = checkGoes(t, s, d)
	}
	var ids []string
	for _, x := range local.Read(s) {
		ids = append(ids, x.Id)
	}
	if !slices.Equal(ids, []string{"ab", "b", "d", "zz"}) {
		t.Errorf("%+v reads %q", s, ids)
	}
	if s = checkGoes(t, s, turns(more(3))); len(local.Read(s)) != 3 || local.Read(s)[0].Id != "aaa" {
		t.Errorf("%+v reads %+v", s, local.Read(s))
	}
}

// pick is one of l.
func pick[T any](r *rand.Rand, l ...T) T { return l[r.Intn(len(l))] }

// anyDeed is a deed of few Ids, or many; now and then one of what may not be.
func anyDeed(r *rand.Rand, ids int) deed {
	d := deed{what: pick(r, "Create", "Create", "Create", "Update", "Update", "Delete"), id: name(r.Intn(ids) * 5), kind: pick(r, "", "pot", "cup"), num: r.Intn(10), at: pick(r, 0, 3-4i, 1000i)}
	if r.Intn(25) == 0 {
		d = turns(pick(r, filters()[1:]...))
	}
	switch r.Intn(60) {
	case 0:
		d.id, d.f = pick(r, oddTexts()...), not()
	case 1:
		d.kind = pick(r, oddTexts()...)
	case 2:
		d.at = pick(r, oddPlaces()...)
	case 3:
		d.num = pick(r, -1000001, 1000001)
	}
	return d
}

// told is s with an item that another replica made, as if it had come from there.
func told(r *rand.Rand, s api.State, id string) api.State {
	x := made(id, r.Intn(10), 1+s.R%8, 1+r.Intn(50), 1+r.Intn(60))
	if know.Has(s.K, id, x.Ver) || len(all(s)) == 40 {
		return s
	}
	s.K, s.Clock = know.With(s.K, id, x.Ver), max(s.Clock, x.Stamp)
	s.Store, s.Out = list.Drop(s.Store, id), list.Drop(s.Out, id)
	if eval.Has(s.F, x) {
		s.Store = list.Put(s.Store, x)
	}
	return s
}

// TestManyDeeds does many of them one behind the other, on states with what others made, too, each against the chapter's sentences: P9.1 to P9.4.
func TestManyDeeds(t *testing.T) {
	r := rand.New(rand.NewSource(1))
	codes := map[api.Code]int{}
	for round := range 60 {
		s, err := local.New(1+round%8, pick(r, filters()...))
		if err != nil {
			t.Fatal(err)
		}
		ids := pick(r, 3, 8, 60)
		switch round % 6 {
		case 0:
			s.Count, s.Clock, s.Epoch = 900, 999900, 999998
		case 1:
			store := r.Intn(40)
			s, ids = filled(store, 39-store), 60
		}
		for range 120 {
			if r.Intn(9) == 0 {
				s = told(r, s, name(r.Intn(ids)*5))
			}
			d := anyDeed(r, ids)
			want, c := wanted(s, d)
			codes[c]++
			kept := copyOf(s)
			got := check(t, s, d, want, c)
			if !written(s, kept) {
				t.Fatalf("%+v changed %+v: %+v", d, kept, s)
			}
			if s = got; !slices.EqualFunc(local.Read(s), slices.DeleteFunc(row(s.Store...), func(x api.Item) bool { return x.Dead }), alike) {
				t.Fatalf("%+v reads %+v", s, local.Read(s))
			}
		}
	}
	for _, c := range []api.Code{0, api.ErrArg, api.ErrNone, api.ErrInUse, api.ErrFull, api.ErrCount} {
		if codes[c] < 20 {
			t.Errorf("error %d came %d times alone", c, codes[c])
		}
	}
}

// TestAllVersions makes as many as there are, and no more: P9.1, P9.4.
func TestAllVersions(t *testing.T) {
	for _, f := range []api.Pred{star, less(5)} {
		s := empty(6, f)
		var err error
		for i := range 1000 {
			id := name(i * 7 % 40)
			if s, err = local.Create(s, id, "", i%10, 0); err != nil {
				s, err = local.Update(s, id, "", i%10, 0)
			}
			if err != nil || s.Count != i+1 || s.Clock != i+1 || !local.May(s) {
				t.Fatal(i, s, err)
			}
		}
		if s.K.Star != (api.Vec{0, 0, 0, 0, 0, 1000}) || len(s.K.L) != 0 || len(all(s)) != 40 {
			t.Errorf("%+v behind 1000 versions", s)
		}
		checkFault(t, s, updates(all(s)[0].Id, 1), api.ErrCount)
		checkFault(t, s, deletes(all(s)[39].Id), api.ErrCount)
		checkFault(t, s, creates("zzz", 1), api.ErrFull)
	}
}

// changes are ways in which a state may become one that may not be, some of which may leave it one that may.
func changes(r *rand.Rand) []func(s *api.State) {
	numbers := []int{math.MinInt, math.MinInt + 1, -1 << 32, -1, 0, 1, 2, 8, 9, 999, 1000, 1001, 999999, 1000000, 1000001, 1 << 32, math.MaxInt - 1, math.MaxInt}
	one := func(s *api.State) *api.Item {
		for _, l := range [][]api.Item{pick(r, s.Store, s.Out), s.Store, s.Out} {
			if len(l) > 0 {
				return &l[r.Intn(len(l))]
			}
		}
		return &api.Item{}
	}
	piece := func(s *api.State) *api.Frag {
		s.K.L = append(s.K.L, frag(api.Vec{}, name(r.Intn(9)*5)))
		return &s.K.L[r.Intn(len(s.K.L))]
	}
	id := func() string { return pick(r, append(oddTexts(), "", "a", "z", "c", "aa")...) }
	return []func(s *api.State){
		func(s *api.State) { s.R = pick(r, numbers...) }, func(s *api.State) { s.Count = pick(r, numbers...) }, func(s *api.State) { s.Clock = pick(r, numbers...) }, func(s *api.State) { s.Epoch = pick(r, numbers...) },
		func(s *api.State) { s.F = pick(r, append(filters(), oddFilters()[:20]...)...) }, func(s *api.State) { s.Store, s.Out = s.Out, s.Store }, func(s *api.State) { slices.Reverse(s.Store) }, func(s *api.State) { slices.Reverse(s.Out) },
		func(s *api.State) { s.Out = slices.Concat(s.Out, s.Store) }, func(s *api.State) { s.Store = slices.Concat(s.Store, s.Out, s.Store) }, func(s *api.State) { s.Store = append(s.Store, api.Item{}) },
		func(s *api.State) { one(s).Id = id() }, func(s *api.State) { one(s).Kind = id() }, func(s *api.State) { one(s).Num = pick(r, numbers...) }, func(s *api.State) { one(s).Stamp = pick(r, numbers...) },
		func(s *api.State) { one(s).Ver.R = pick(r, numbers...) }, func(s *api.State) { one(s).Ver.C = pick(r, numbers...) }, func(s *api.State) { one(s).At = pick(r, oddPlaces()...) }, func(s *api.State) { one(s).Dead = true },
		func(s *api.State) { s.K.Star[r.Intn(8)] = pick(r, numbers...) }, func(s *api.State) { piece(s).Vec[r.Intn(8)] = pick(r, numbers...) }, func(s *api.State) { piece(s).Ids = nil }, func(s *api.State) { piece(s).Ids[0] = id() },
		func(s *api.State) { slices.Reverse(s.K.L) }, func(s *api.State) { s.K = api.Know{} }, func(s *api.State) { *s = empty(pick(r, numbers...), pick(r, filters()...)) },
	}
}

// TestAnyArguments asks that each call ends and panics at nothing, of states that may not be, too; that what is handed in stays; and of May what its sentence says: P1, R2 to R4.
func TestAnyArguments(t *testing.T) {
	r := rand.New(rand.NewSource(2))
	may := map[bool]int{}
	for i := range 6000 {
		s := pick(r, base(), gap(), filled(r.Intn(42), r.Intn(9)), empty(1+r.Intn(8), star))
		for range 1 + r.Intn(3) {
			func() {
				// A change may find nothing to change, as another one was there before.
				defer func() { _ = recover() }()
				pick(r, changes(r)...)(&s)
			}()
		}
		want := len(broken(s)) == 0
		if may[want]++; local.May(s) != want {
			t.Fatalf("May(%+v) = %v: %q", s, !want, broken(s))
		}
		checkRead(t, s, slices.DeleteFunc(row(s.Store...), func(x api.Item) bool { return x.Dead }))
		d := anyDeed(r, 9)
		if i%4 == 0 {
			d = deed{what: pick(r, "Create", "Update", "Delete", "Filter"), id: pick(r, append(oddTexts(), "", "a")...), kind: pick(r, oddTexts()...), num: pick(r, math.MinInt, 0, math.MaxInt), at: pick(r, oddPlaces()...), f: pick(r, oddFilters()[:20]...)}
		}
		got, err := do(s, d)
		if c, ok := err.(api.Code); err != nil && (!ok || c < 1 || c > 5 || !written(got, s)) {
			t.Fatalf("%+v of %+v = %+v, %v", d, s, got, err)
		}
		if want && err == nil && !local.May(got) {
			t.Fatalf("%+v of %+v = %+v, which may not be", d, s, got)
		}
		checkMemory(t, d.what, s, d.f, func(s api.State, f api.Pred) api.State {
			d.f = f
			got, _ := do(s, d)
			return got
		})
		local.New(s.R, s.F)
	}
	if may[true] < 200 || may[false] < 200 {
		t.Errorf("of those that may be, and may not: %v", may)
	}
}

// TestLongStates asks each call of states with very many items, and very many pieces: P1.
func TestLongStates(t *testing.T) {
	var s api.State
	for i := range 26 * 26 * 26 {
		id := name(i/26) + name(i % 26)[1:]
		s.Store = append(s.Store, made(id, i%10, 1+i%8, i, i))
		s.Out = append(s.Out, made(id+"a", i%10, 1+i%8, i, i))
		s.K.L = append(s.K.L, frag(api.Vec{i, 3}, id))
	}
	for _, s.R = range []int{1, 9} {
		for _, s.F = range []api.Pred{less(5), {}} {
			local.May(s)
			local.Read(s)
			for _, d := range []deed{creates("a", 1), creates("aaa", 1), updates("aaa", 7), updates("aaaa", 7), deletes("bbb"), deletes("zzza"), turns(star), turns(less(7)), turns(not())} {
				do(s, d)
			}
		}
	}
}

// TestLargeFilters asks each call of states with filters of very many parts, and of more than can be gone through: P1.
func TestLargeFilters(t *testing.T) {
	deep := star
	for range 1 << 16 {
		deep = not(deep)
	}
	wide := or(slices.Repeat([]api.Pred{and(star, star)}, 1<<18)...)
	for i, f := range []api.Pred{deep, wide, bush(16), bush(60), or(not(bush(60)), wide, bush(70)), and(slices.Repeat([]api.Pred{bush(60)}, 1000)...)} {
		s := base()
		if s.F = f; local.May(s) || local.May(empty(1, f)) {
			t.Errorf("a state may be with large filter %d", i)
		}
		if got, err := local.New(1, f); !isCode(err, api.ErrArg) || !written(got, api.State{}) {
			t.Errorf("New with large filter %d: %v", i, err)
		}
		if got, err := local.Filter(base(), f); !isCode(err, api.ErrArg) || !written(got, base()) {
			t.Errorf("Filter to large filter %d: %v", i, err)
		}
		if got := local.Read(s); !slices.EqualFunc(got, base().Store[:1], alike) {
			t.Errorf("Read with large filter %d: %v", i, got)
		}
		for _, d := range []deed{creates("e", 1), updates("a", 9), deletes("b"), turns(less(1))} {
			if _, err := do(s, d); err != nil {
				t.Errorf("%+v with large filter %d: %v", d, i, err)
			}
		}
		for _, d := range []deed{creates("E", 1), updates("e", 9), deletes("c"), turns(not())} {
			got, err := do(s, d)
			if got.F.Op != f.Op || len(got.F.Kids) != len(f.Kids) {
				t.Errorf("%+v with large filter %d told another one", d, i)
			}
			if got.F = base().F; err == nil || !written(got, base()) {
				t.Errorf("%+v with large filter %d: %v", d, i, err)
			}
		}
	}
	// One with many more parts than may be is told in new memory still.
	s := base()
	s.F = or(slices.Repeat([]api.Pred{bush(5), not(less(1))}, 30)...)
	for _, d := range []deed{creates("e", 1), creates("a", 1), turns(not())} {
		checkMemory(t, d.what, s, d.f, func(s api.State, f api.Pred) api.State {
			d.f = f
			got, err := do(s, d)
			if !alikeFilters(got.F, s.F) {
				t.Errorf("%+v told another filter: %v", d, err)
			}
			return got
		})
	}
}
