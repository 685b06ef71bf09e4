package clus_test

import (
	"reflect"
	"slices"
	"testing"

	"gallipot/api"
	"gallipot/clus"
)

// roomy is v in memory of its own, with room behind all its lists, in which something stands.
func roomy(v reflect.Value) reflect.Value {
	w := reflect.New(v.Type()).Elem()
	switch v.Kind() {
	case reflect.Struct:
		for i := range v.NumField() {
			w.Field(i).Set(roomy(v.Field(i)))
		}
	case reflect.Slice:
		w.Set(reflect.MakeSlice(v.Type(), v.Len()+3, v.Len()+3))
		for i := range w.Len() {
			if i < v.Len() {
				w.Index(i).Set(roomy(v.Index(i)))
			} else {
				scribble(w.Index(i))
			}
		}
		w.SetLen(v.Len())
	default:
		w.Set(v)
	}
	return w
}

// copyOf is v in memory of its own, with room behind all its lists.
func copyOf[T any](v T) T { return roomy(reflect.ValueOf(v)).Interface().(T) }

// scribble writes over all of v, what stands behind its lists, too.
func scribble(v reflect.Value) {
	switch v.Kind() {
	case reflect.Struct:
		for i := range v.NumField() {
			scribble(v.Field(i))
		}
	case reflect.Slice:
		for i := range v.Cap() {
			scribble(v.Slice(0, v.Cap()).Index(i))
		}
	case reflect.Array:
		for i := range v.Len() {
			scribble(v.Index(i))
		}
	case reflect.Int:
		v.SetInt(99)
	case reflect.Uint8:
		v.SetUint(^v.Uint() & 255)
	case reflect.String:
		v.SetString("over")
	case reflect.Complex128:
		v.SetComplex(99)
	case reflect.Bool:
		v.SetBool(true)
	}
}

// overwrite writes over all that v has.
func overwrite[T any](v T) { scribble(reflect.ValueOf(&v).Elem()) }

// places puts where each element of each list of v stands, behind their lengths, too, behind l.
func places(l []uintptr, v reflect.Value) []uintptr {
	switch v.Kind() {
	case reflect.Struct:
		for i := range v.NumField() {
			l = places(l, v.Field(i))
		}
	case reflect.Slice:
		v = v.Slice(0, v.Cap())
		for i := range v.Len() {
			l = places(append(l, v.Index(i).Addr().Pointer()), v.Index(i))
		}
	}
	return l
}

// apart asks that no place in memory is told twice.
func apart(t *testing.T, all ...any) {
	t.Helper()
	var l []uintptr
	for _, x := range all {
		l = places(l, reflect.ValueOf(x))
	}
	slices.Sort(l)
	if len(slices.Compact(slices.Clone(l))) != len(l) {
		t.Fatal("two lists share memory")
	}
}

// alikeValues tells whether both are alike: nil and empty are one, and -0 is 0; with what stands behind their lists, if behind asks for it.
func alikeValues(a, b reflect.Value, behind bool) bool {
	switch a.Kind() {
	case reflect.Struct:
		for i := range a.NumField() {
			if !alikeValues(a.Field(i), b.Field(i), behind) {
				return false
			}
		}
		return true
	case reflect.Slice:
		if a.Len() != b.Len() || behind && a.Cap() != b.Cap() {
			return false
		}
		if behind {
			a, b = a.Slice(0, a.Cap()), b.Slice(0, b.Cap())
		}
		for i := range a.Len() {
			if !alikeValues(a.Index(i), b.Index(i), behind) {
				return false
			}
		}
		return true
	}
	return a.Interface() == b.Interface()
}

// alike tells whether both are alike.
func alike[T any](a, b T) bool { return alikeValues(reflect.ValueOf(a), reflect.ValueOf(b), false) }

// untouched tells whether v is what copyOf told of was, behind all its lists, too.
func untouched[T any](v, was T) bool {
	return alikeValues(reflect.ValueOf(v), reflect.ValueOf(copyOf(was)), true)
}

// deep is a filter with Kids of Kids.
func deep() api.Pred { return or(and(less(5), or(star)), and(not(more(9)), texts(api.Kind, "pot"))) }

// busy is a pair of three replicas with items in Store and Out, Dead ones among them, that know of each other's by pieces, with messages of each kind on the way, one of them turned.
func busy(t *testing.T) *pair {
	t.Helper()
	p := begin(t, star, deep(), less(3))
	for i, id := range []string{"a", "b", "c", "d", "e", "f", "g", "h"} {
		p.does(create(1+i%3, id, i), 0, 0)
		p.does(update(1+i%3, id, 7-i), 0, 0)
	}
	p.does(erase(2, "b"), 0, 0)
	p.does(syncs(1, 2), 0, 0)
	p.does(syncs(3, 1), 0, 0)
	p.does(update(1, "d", 2), 0, 0)
	p.does(create(1, "i", 1), 0, 0)
	p.does(filter(2, or(deep(), less(7))), 0, 0)
	p.does(asks(2, 1), 0, 1)
	p.does(twice(0), 0, 0)
	p.do(come(0))
	p.does(asks(3, 1), 0, 1)
	for len(p.messages()) < 2 || p.messages()[len(p.messages())-1].Kind != api.Ack {
		p.do(come(1))
	}
	p.do(asks(1, 3))
	p.do(come(-1))
	p.does(asks(2, 3), 0, 1)
	p.does(turn(0, 5), 0, 0)
	return p
}

// TestTold asks that what is told is new memory: P21.4, R2.
func TestTold(t *testing.T) {
	p := busy(t)
	kinds := map[int]bool{}
	for _, l := range p.b.way[1:] {
		kinds[int(l.b[0])/2] = true
	}
	if len(kinds) != 4 {
		t.Fatalf("of kinds %v are on the way", kinds)
	}
	for range 3 {
		var told []any
		for who := 1; who <= 3; who++ {
			told = append(told, p.state(who), p.state(who))
		}
		told = append(told, p.c.Way(), p.c.Way())
		apart(t, told...)
		for _, x := range told {
			scribble(deepest(x))
		}
		p.check("written over")
		// What was told stays, whatever is done then.
		s, way := p.state(1), p.c.Way()
		wasS, wasWay := copyOf(s), copyOf(way)
		p.do(turn(1, 9))
		p.do(come(-2))
		p.do(update(1, "i", 9))
		p.do(filter(2, deep()))
		p.do(filter(1, star))
		p.do(syncs(1, 3))
		p.do(lose(2))
		p.do(twice(-1))
		if !alike(s, wasS) || !alike(way, wasWay) {
			t.Fatalf("what was told is %+v, %v; it was %+v, %v", s, way, wasS, wasWay)
		}
	}
}

// deepest is x, that may be written over.
func deepest(x any) reflect.Value {
	v := reflect.New(reflect.TypeOf(x)).Elem()
	v.Set(reflect.ValueOf(x))
	return v
}

// TestGiven asks that nothing that is handed in is changed, or kept: P21.4, R2.
func TestGiven(t *testing.T) {
	for _, f := range filters() {
		fs := copyOf([]api.Pred{star, f, deep(), f})
		was := copyOf(fs)
		c, err := clus.New(fs)
		if err != nil || !untouched(fs, was) {
			t.Fatalf("New(%+v), %v, changed it to %+v", was, err, fs)
		}
		overwrite(fs)
		p := &pair{t, c, opened(t, was), map[api.Ver]api.Item{}}
		p.check("New's own, written over")
		p.does(create(2, "a", 4), 0, 0)
		// The same of a step's filter: one that is taken, one that is refused, and one that isn't asked for.
		for _, x := range []clus.Step{filter(3, or(f)), filter(1, or(f)), {Kind: 5, Who: 3, With: 1, F: or(f)}, {Kind: 11, Who: 3, With: 2, F: or(f)}, {Kind: 1, Who: 3, Id: "b", F: or(f)}, {Kind: 10, Who: 3, F: or(f)}} {
			given := copyOf(x)
			was := copyOf(x)
			want := p.b.do(was)
			if got := p.c.Do(given); got != want || !untouched(given, x) {
				t.Fatalf("%+v: %+v, want %+v, and it is %+v", x, got, want, given)
			}
			overwrite(given)
			p.check("the step, written over")
		}
		p.does(restart(3), 0, 0)
	}
}

// TestGivenOfTold asks the same of a filter that was told, and handed in.
func TestGivenOfTold(t *testing.T) {
	p := busy(t)
	s := p.state(2)
	p.does(filter(3, s.F), 0, 0)
	overwrite(s)
	p.check("the filter, written over")
	c, err := clus.New([]api.Pred{p.state(1).F, p.state(2).F})
	if err != nil {
		t.Fatal(err)
	}
	q := &pair{t, c, opened(t, []api.Pred{p.state(1).F, p.state(2).F}), map[api.Ver]api.Item{}}
	q.does(filter(2, p.state(3).F), 0, 0)
	q.does(create(2, "z", 4), 0, 0)
	p.check("another cluster of its filters")
}

// TestApart asks that what is done in one cluster changes no other one.
func TestApart(t *testing.T) {
	p, q := busy(t), busy(t)
	for i := range 40 {
		p.do(clus.Step{Kind: 1 + i%12, Who: 1 + i%3, With: 1 + (i+1)%3, At: i, N: i * 7, Id: name(i), F: less(i)})
		q.check("another cluster's step")
	}
	p.check("its own")
}
