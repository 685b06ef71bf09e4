package eval_test

import (
	"math"
	"math/rand"
	"strings"
	"testing"

	"gallipot/api"
	"gallipot/eval"
	"gallipot/pred"
)

var (
	noNumber = math.NaN()
	infinite = math.Inf(1)
	minus0   = math.Copysign(0, -1)

	star = api.Pred{Op: api.Star}
	none = api.Pred{Op: api.None}
)

func and(kids ...api.Pred) api.Pred { return api.Pred{Op: api.And, Kids: kids} }
func or(kids ...api.Pred) api.Pred  { return api.Pred{Op: api.Or, Kids: kids} }
func not(kids ...api.Pred) api.Pred { return api.Pred{Op: api.Not, Kids: kids} }
func kind(s string) api.Pred        { return api.Pred{Op: api.Kind, Text: s} }
func prefix(s string) api.Pred      { return api.Pred{Op: api.Prefix, Text: s} }
func less(n int) api.Pred           { return api.Pred{Op: api.Less, N: n} }
func more(n int) api.Pred           { return api.Pred{Op: api.More, N: n} }

func near(c complex128, n int) api.Pred { return api.Pred{Op: api.Near, At: c, N: n} }

// times are n filters like p.
func times(n int, p api.Pred) []api.Pred {
	var l []api.Pred
	for range n {
		l = append(l, p)
	}
	return l
}

// copyOf is p in memory of its own.
func copyOf(p api.Pred) api.Pred {
	kids := p.Kids
	p.Kids = nil
	for _, kid := range kids {
		p.Kids = append(p.Kids, copyOf(kid))
	}
	return p
}

// jar is an item that may be.
func jar() api.Item {
	return api.Item{Id: "jar", Ver: api.Ver{R: 1, C: 1}, Stamp: 1, Kind: "pot", Num: 5, At: 3 + 4i}
}

// items are items with attributes at each side of what the leaves ask.
func items() []api.Item {
	var l []api.Item
	for _, id := range []string{"a", "ja", "jar", "pot", "zzzzzzzz"} {
		for _, k := range []string{"", "a", "pot"} {
			for _, num := range []int{-4, -3, 2, 3, 4} {
				for _, at := range []complex128{0, 1i, 3 - 4i, 3 + 4i} {
					l = append(l, api.Item{Id: id, Ver: api.Ver{R: 1, C: 1}, Stamp: 1, Kind: k, Num: num, At: at})
				}
			}
		}
	}
	return l
}

// leaves are filters that may be, of one part.
func leaves() []api.Pred {
	return []api.Pred{
		star, none, kind(""), kind("pot"), prefix(""), prefix("ja"), less(3), more(-3), more(3), near(3-4i, 25), near(0, 1), and(), or(),
	}
}

// odds are filters that may not be, each by its own part alone.
func odds() []api.Pred {
	return []api.Pred{
		{}, {Op: -1}, {Op: 11}, not(), not(star, none), not(less(1), less(2)), not(not()), {Op: api.Star, Kids: []api.Pred{less(1)}}, kind("A"), prefix("abcdefghi"),
		{Op: api.None, N: 3}, less(math.MinInt), more(math.MaxInt), near(0.5, 1), near(complex(noNumber, 0), 1), near(0, -1), {Op: api.And, N: 1}, {Op: api.Or, Text: "a"},
		{Op: 77, Kids: []api.Pred{or(or(star)), not(none)}}, {Op: api.Kind, Kids: []api.Pred{and()}},
	}
}

// random is a filter of at most so many levels, whose leaves are of l; Ors in Ors and the like come often.
func random(r *rand.Rand, levels int, l []api.Pred) api.Pred {
	if levels < 2 || r.Intn(4) == 0 {
		return l[r.Intn(len(l))]
	}
	p := api.Pred{Op: []int{api.And, api.Or, api.Not}[r.Intn(3)]}
	n := r.Intn(5)
	if p.Op == api.Not {
		n = 1
	}
	for range n {
		p.Kids = append(p.Kids, random(r, levels-1, l))
	}
	return p
}

// fitting are n filters that may be.
func fitting(r *rand.Rand, n int) []api.Pred {
	var l []api.Pred
	for len(l) < n {
		if p := random(r, 1+r.Intn(6), leaves()); pred.May(p) {
			l = append(l, p)
		}
	}
	return l
}

func TestHasStarAndNone(t *testing.T) { // P4.1
	for _, x := range append(items(), api.Item{}, api.Item{Id: "J!", Num: math.MinInt, At: complex(noNumber, infinite), Dead: true}) {
		if !eval.Has(star, x) || eval.Has(none, x) {
			t.Errorf("Star hasn't %+v, or None has it", x)
		}
	}
}

func TestHasKind(t *testing.T) { // P4.1
	for _, c := range []struct {
		text, kind string
		want       bool
	}{
		{"pot", "pot", true}, {"", "", true}, {"pot", "", false}, {"", "pot", false}, {"pot", "po", false}, {"po", "pot", false},
		{"pot", "jar", false}, {"potpotpo", "potpotpo", true}, {"pot", "Pot", false}, {"jar", "pot", false},
	} {
		x := jar()
		x.Kind = c.kind
		if eval.Has(kind(c.text), x) != c.want {
			t.Errorf("Kind %q and an item of Kind %q: not %v", c.text, c.kind, c.want)
		}
	}
}

func TestHasPrefix(t *testing.T) { // P4.1
	for _, c := range []struct {
		text, id string
		want     bool
	}{
		{"", "jar", true}, {"j", "jar", true}, {"ja", "jar", true}, {"jar", "jar", true}, {"jars", "jar", false}, {"jarjarja", "jar", false},
		{"a", "jar", false}, {"ar", "jar", false}, {"jb", "jar", false}, {"k", "jar", false}, {"", "", true}, {"a", "", false},
		{"abcdefgh", "abcdefgh", true}, {"abcdefgi", "abcdefgh", false}, {"J", "jar", false}, {"pot", "jar", false},
	} {
		x := jar()
		x.Id = c.id
		if eval.Has(prefix(c.text), x) != c.want {
			t.Errorf("Prefix %q and an item of Id %q: not %v", c.text, c.id, c.want)
		}
	}
}

func TestHasLessAndMore(t *testing.T) { // P4.1
	l := []int{math.MinInt, math.MinInt + 1, -1 << 32, -1000000, -6, -5, -1, 0, 1, 4, 5, 6, 1000000, 1 << 32, math.MaxInt - 1, math.MaxInt}
	for _, n := range l {
		for _, num := range l {
			x := jar()
			x.Num = num
			if got := eval.Has(less(n), x); got != (num < n) {
				t.Errorf("Less %d and Num %d: %v", n, num, got)
			}
			if got := eval.Has(more(n), x); got != (num >= n) {
				t.Errorf("More %d and Num %d: %v", n, num, got)
			}
		}
	}
}

func TestHasNear(t *testing.T) { // P4.1
	for _, c := range []struct {
		a, b complex128
		n    int
		want bool
	}{
		{0, 3 + 4i, 25, true}, {0, 3 + 4i, 24, false}, {0, 3 + 4i, 26, true}, {3 + 4i, 3 + 4i, 0, true}, {3 + 4i, 3 - 4i, 0, false},
		{3 + 4i, 3 - 4i, 63, false}, {3 + 4i, 3 - 4i, 64, true}, {-1000 - 1000i, 1000 + 1000i, 8000000, true}, {-1000 - 1000i, 1000 + 1000i, 7999999, false},
		{complex(minus0, minus0), 0, 0, true}, {0, complex(0, 1), 1, true}, {0, complex(1, 1), 1, false}, {0, 0, -1, false},
		{0, 0.5, 100, false}, {0, 1001, 1 << 40, false}, {0, complex(noNumber, 0), 100, false}, {0, complex(0, infinite), math.MaxInt, false},
		{0, 1 + 0.5i, -1, false}, {complex(infinite, 0), complex(infinite, 0), 0, false}, {complex(noNumber, 0), complex(noNumber, 0), 1, false},
	} {
		for _, swap := range []bool{false, true} {
			if swap {
				c.a, c.b = c.b, c.a
			}
			x := jar()
			x.At = c.b
			if eval.Has(near(c.a, c.n), x) != c.want {
				t.Errorf("Near %v by %d and an item at %v: not %v", c.a, c.n, c.b, c.want)
			}
		}
	}
}

// TestHasAndOrNot asks with Kids that have it, and that haven't, at each place: P4.1.
func TestHasAndOrNot(t *testing.T) {
	x := jar()
	yes := []api.Pred{star, kind("pot"), prefix("ja"), less(6), more(5), near(0, 25), and(), not(none)}
	no := []api.Pred{none, kind("jar"), prefix("pot"), less(5), more(6), near(0, 24), or(), not(star), not(), {}, {Op: 11}}
	if !eval.Has(and(), x) || eval.Has(or(), x) || eval.Has(not(), x) {
		t.Error("an And of none hasn't it, or an Or, or a Not, of none has it")
	}
	if !eval.Has(and(yes...), x) || eval.Has(or(no...), x) {
		t.Error("an And of all that have it hasn't it, or an Or of all that haven't it has it")
	}
	for i, p := range yes {
		if !eval.Has(p, x) || !eval.Has(and(p), x) || !eval.Has(or(p), x) || eval.Has(not(p), x) {
			t.Errorf("%+v: it, an And or an Or of it haven't it, or a Not of it has it", p)
		}
		if l := append(append(append([]api.Pred{}, no[:i]...), p), no[i:]...); !eval.Has(or(l...), x) {
			t.Errorf("an Or whose Kid %d alone has it hasn't it", i)
		}
	}
	for i, p := range no {
		if eval.Has(p, x) || eval.Has(and(p), x) || eval.Has(or(p), x) || !eval.Has(not(p), x) {
			t.Errorf("%+v: it, an And or an Or of it have it, or a Not of it hasn't it", p)
		}
		at := min(i, len(yes))
		if l := append(append(append([]api.Pred{}, yes[:at]...), p), yes[at:]...); eval.Has(and(l...), x) {
			t.Errorf("an And whose Kid %d alone hasn't it has it", at)
		}
	}
}

func TestHasNotOfMore(t *testing.T) { // P4.1
	x := jar()
	if !eval.Has(not(none, star), x) || eval.Has(not(star, none), x) || !eval.Has(not(not(), star), x) {
		t.Error("of a Not of two it isn't the first one of Kids that is asked")
	}
}

// TestHasOtherOps: what has another Op, or what has Kids beside an Op that doesn't name them, is asked by its Op alone: P4.1.
func TestHasOtherOps(t *testing.T) {
	x := jar()
	for n := -300; n <= 300; n++ {
		if n >= 1 && n <= 10 {
			continue
		}
		for _, p := range []api.Pred{{Op: n}, {Op: n, Text: "pot", Kids: []api.Pred{star}}, {Op: n, Text: "jar", N: 1 << 30, At: 3 + 4i}} {
			if eval.Has(p, x) || !eval.Has(not(p), x) {
				t.Errorf("%+v has an item", p)
			}
		}
	}
	for _, n := range []int{math.MinInt, math.MaxInt, 1<<8 + 1, 1<<16 + 1, 1<<32 + 1, 1<<63 - 1<<32 + 1} {
		if eval.Has(api.Pred{Op: n}, x) {
			t.Errorf("Op %d has an item", n)
		}
	}
	if eval.Has(api.Pred{Op: api.Kind, Text: "jar", Kids: []api.Pred{star}}, x) || !eval.Has(api.Pred{Op: api.Star, Text: "a", Kids: []api.Pred{none}}, x) {
		t.Error("a Kind, or a Star, is asked by its Kids")
	}
}

// TestHasNotAsked changes what no Op, or not this one, asks for: P4.1.
func TestHasNotAsked(t *testing.T) {
	for _, c := range []struct {
		p   api.Pred
		put func(x *api.Item)
	}{
		{kind("pot"), func(x *api.Item) { x.Id, x.Num, x.At = "pot", 77, -1i }},
		{prefix("ja"), func(x *api.Item) { x.Kind, x.Num, x.At = "ja", 77, -1i }},
		{less(6), func(x *api.Item) { x.Id, x.Kind, x.At = "b", "b", 1000 }},
		{more(5), func(x *api.Item) { x.Id, x.Kind, x.At = "b", "b", -1000 }},
		{near(0, 25), func(x *api.Item) { x.Id, x.Kind, x.Num = "b", "b", 26 }},
	} {
		for _, p := range []api.Pred{c.p, not(c.p), and(c.p, star), or(none, c.p)} {
			x, y := jar(), jar()
			c.put(&y)
			for _, dead := range []bool{false, true} {
				x.Dead = dead
				y.Dead, y.Stamp, y.Ver = !dead, 99, api.Ver{R: -1, C: 7}
				want := p.Op != api.Not
				if eval.Has(p, x) != want || eval.Has(p, y) != want {
					t.Errorf("%+v of %+v, or of %+v, isn't %v", p, x, y, want)
				}
			}
		}
	}
}

func TestPlainKnown(t *testing.T) { // P4.1
	a, b, c, d := less(3), kind("pot"), prefix("ja"), near(1, 2)
	for i, x := range []struct{ p, want api.Pred }{
		// What has no Kids stays.
		{star, star}, {none, none}, {a, a}, {more(7), more(7)}, {b, b}, {c, c}, {d, d},
		// Of none, of one.
		{or(), none}, {and(), star}, {or(a), a}, {and(a), a}, {or(and(a, b)), and(a, b)}, {and(or(a, b)), or(a, b)}, {or(or(or(a))), a},
		{or(star), star}, {or(none), none}, {and(star), star}, {and(none), none}, {or(not(a)), not(a)},
		// Nothing to be done.
		{or(a, b), or(a, b)}, {and(a, b, c), and(a, b, c)}, {or(b, a), or(b, a)}, {or(and(a, b), and(b, a)), or(and(a, b), and(b, a))}, {not(a), not(a)},
		{or(a, not(a)), or(a, not(a))}, {and(less(3), less(4)), and(less(3), less(4))},
		// Kids of Kids, in their place.
		{or(a, or(b, c), d), or(a, b, c, d)}, {and(a, and(b, c), d), and(a, b, c, d)}, {or(or(a, b), or(c, d)), or(a, b, c, d)},
		{or(or(or(a, or(b)), c), d), or(a, b, c, d)}, {and(a, and(b, and(c, and(d)))), and(a, b, c, d)},
		{or(a, and(b, c), d), or(a, and(b, c), d)}, {and(a, or(b, c), d), and(a, or(b, c), d)}, {or(a, and(or(b, c))), or(a, b, c)},
		{or(a, and(b, and(c, d))), or(a, and(b, c, d))}, {or(d, not(not(or(a, b)))), or(d, a, b)}, {and(not(not(and(a, b))), c), and(a, b, c)},
		{or(and(star, or(a, b)), c), or(a, b, c)}, {not(or(a, or(b))), not(or(a, b))},
		// What stands there twice.
		{or(a, a), a}, {and(b, b, b), b}, {or(a, b, a), or(a, b)}, {and(a, b, b, a), and(a, b)}, {or(b, or(a, b), a), or(b, a)}, {and(and(a, b), and(b, a)), and(a, b)},
		{or(and(a, b), c, and(a, b)), or(and(a, b), c)}, {or(a, and(a)), a}, {or(a, or(), b, or(a)), or(a, b)}, {or(not(a), not(not(not(a)))), not(a)},
		{or(near(0, 1), near(complex(minus0, minus0), 1)), near(0, 1)}, {and(a, or(a, b), or(a, b, a)), and(a, or(a, b))},
		// Nones of an Or, Stars of an And.
		{or(none, a, none, b, none), or(a, b)}, {and(star, a, star, b, star), and(a, b)}, {or(none, none), none}, {and(star, star), star}, {or(a, none), a}, {and(star, a), a},
		{or(a, and(none, b)), a}, {and(a, or(star, b)), a}, {or(a, or(none)), a}, {or(not(star), a), a}, {and(not(none), a), a}, {or(or(), a), a}, {and(and(), a), a},
		// A Star of an Or, a None of an And.
		{or(a, star), star}, {or(star, a, b), star}, {or(none, star), star}, {or(star, none), star}, {and(a, none), none}, {and(none, a), none}, {and(star, none), none}, {and(none, star), none},
		{or(a, or(b, star)), star}, {and(a, and(b, none)), none}, {or(a, and()), star}, {and(a, or()), none}, {or(a, not(none)), star}, {and(a, not(star)), none}, {or(star, star), star},
		{or(a, and(b, or(c, star), star), and(star)), star}, {and(a, or(none, none)), none}, {or(a, and(b, none)), a}, {or(a, and(b, star)), or(a, b)},
		// Nots.
		{not(star), none}, {not(none), star}, {not(not(a)), a}, {not(not(not(a))), not(a)}, {not(not(not(not(a)))), a}, {not(not(star)), star}, {not(not(none)), none},
		{not(or()), star}, {not(and()), none}, {not(or(a)), not(a)}, {not(or(not(a))), a}, {not(and(not(or(a, b)), star)), or(a, b)}, {not(or(a, star)), none}, {not(and(b, none)), star},
		{not(or(a, b)), not(or(a, b))}, {not(and(not(a), not(b))), not(and(not(a), not(b)))}, {not(not(or(a, a))), a}, {or(not(or(a, a)), not(a)), not(a)},
	} {
		if !pred.May(x.p) {
			t.Errorf("case %d: %+v may not be", i, x.p)
		}
		if got := eval.Plain(x.p); !pred.Same(got, x.want) {
			t.Errorf("case %d: Plain(%+v) = %+v, want %+v", i, x.p, got, x.want)
		}
	}
}

// TestPlainPlaces puts each sort of Kid at each place among others: P4.1.
func TestPlainPlaces(t *testing.T) {
	others := []api.Pred{less(1), less(2), less(3), less(4)}
	for at := 0; at <= 4; at++ {
		with := func(kids ...api.Pred) []api.Pred {
			return append(append(append([]api.Pred{}, others[:at]...), kids...), others[at:]...)
		}
		for _, c := range []struct{ p, want api.Pred }{
			{or(with(none)...), or(others...)},
			{and(with(star)...), and(others...)},
			{or(with(star)...), star},
			{and(with(none)...), none},
			{or(with(or(kind("a"), kind("b")))...), or(with(kind("a"), kind("b"))...)},
			{and(with(and(kind("a"), kind("b")))...), and(with(kind("a"), kind("b"))...)},
			{or(with(and(kind("a"), kind("b")))...), or(with(and(kind("a"), kind("b")))...)},
			{and(with(or(kind("a"), kind("b")))...), and(with(or(kind("a"), kind("b")))...)},
			{or(with(or())...), or(others...)},
			{and(with(and())...), and(others...)},
			{or(with(not(not(more(9))))...), or(with(more(9))...)},
			{and(with(not(none))...), and(others...)},
		} {
			if got := eval.Plain(c.p); !pred.Same(got, c.want) {
				t.Errorf("Plain(%+v) = %+v, want %+v", c.p, got, c.want)
			}
		}
		// The one that stands there first stays, the second goes.
		for twin := range 4 {
			var want []api.Pred
			for i, p := range with(others[twin]) {
				if i != max(at, twin+1) && !(twin >= at && i == twin+1) {
					want = append(want, p)
				}
			}
			if got := eval.Plain(or(with(others[twin])...)); !pred.Same(got, or(want...)) {
				t.Errorf("one like Kid %d at %d: %+v, want %+v", twin, at, got, or(want...))
			}
		}
	}
}

// plain is the chapter's own sentences, one at a time, for a p that may be.
func plain(p api.Pred) api.Pred {
	var l []api.Pred
	for _, kid := range p.Kids {
		l = append(l, plain(kid))
	}
	p.Kids = l
	switch p.Op {
	case api.Or:
		return row(p, none, star)
	case api.And:
		return row(p, star, none)
	case api.Not:
		switch kid := p.Kids[0]; kid.Op {
		case api.Not:
			return kid.Kids[0]
		case api.Star:
			return none
		case api.None:
			return star
		}
	}
	return p
}

// row is what the chapter says of an Or (of an And, with Star and None the other way round).
func row(p, no, all api.Pred) api.Pred {
	var spread, left, once []api.Pred
	for _, kid := range p.Kids {
		if kid.Op == p.Op {
			spread = append(spread, kid.Kids...)
		} else {
			spread = append(spread, kid)
		}
	}
	for _, kid := range spread {
		if !pred.Same(kid, no) {
			left = append(left, kid)
		}
	}
	for i, kid := range left {
		second := false
		for _, x := range left[:i] {
			second = second || pred.Same(x, kid)
		}
		if !second {
			once = append(once, kid)
		}
	}
	for _, kid := range once {
		if pred.Same(kid, all) {
			return all
		}
	}
	if len(once) == 0 {
		return no
	}
	if len(once) == 1 {
		return once[0]
	}
	p.Kids = once
	return p
}

// TestPlainByTheWords holds Plain against the chapter's own sentences on many filters: P4.1.
func TestPlainByTheWords(t *testing.T) {
	r := rand.New(rand.NewSource(6))
	smaller, kept := 0, 0
	for _, p := range fitting(r, 20000) {
		got := eval.Plain(p)
		if want := plain(p); !pred.Same(got, want) {
			t.Fatalf("Plain(%+v) = %+v, want %+v", p, got, want)
		}
		if pred.Size(got) < pred.Size(p) {
			smaller++
		} else {
			kept++
		}
	}
	if smaller < 3000 || kept < 3000 {
		t.Errorf("%d grew smaller, %d didn't: too few of one sort", smaller, kept)
	}
}

// TestPlainFollows: the same items, no larger, and the same once more: P4.3.
func TestPlainFollows(t *testing.T) {
	r := rand.New(rand.NewSource(7))
	l := items()
	for _, p := range fitting(r, 3000) {
		q := eval.Plain(p)
		for _, x := range l {
			if eval.Has(p, x) != eval.Has(q, x) {
				t.Fatalf("%+v and, made plain, %+v haven't both %+v", p, q, x)
			}
		}
		if pred.Size(q) > pred.Size(p) || pred.Depth(q) > pred.Depth(p) || !pred.May(q) {
			t.Fatalf("%+v is larger made plain, or may not be: %+v", p, q)
		}
		if again := eval.Plain(q); !pred.Same(again, q) {
			t.Fatalf("%+v, plain already, is made %+v", q, again)
		}
	}
}

// scribble changes each part of p that lies in memory that others may share.
func scribble(p api.Pred) {
	for i := range p.Kids {
		scribble(p.Kids[i])
		p.Kids[i] = api.Pred{Op: 99, Text: "scribble", Kids: p.Kids[i].Kids}
	}
	// What lies behind a list may be another one's beginning.
	for i := range p.Kids[len(p.Kids):cap(p.Kids)] {
		p.Kids[:cap(p.Kids)][len(p.Kids)+i] = api.Pred{Op: 98}
	}
}

// TestPlainNewMemory changes all of what was told, and asks whether what was handed in stays; and the other way round: P4.2, R2.
func TestPlainNewMemory(t *testing.T) {
	r := rand.New(rand.NewSource(8))
	a, b, c := less(1), less(2), less(3)
	l := append(fitting(r, 3000),
		or(a, b), or(a, or(b, c)), or(or(a, b)), and(and(a, b), c), not(or(a, b)), not(not(or(a, b))), not(not(not(or(a, b)))), and(or(a, b), or(b, c)),
		or(and(a, b), none), or(and(a, or(b, c))), or(and(a, b), and(a, b)), not(and(or(not(or(a, b))), star)))
	for range 300 {
		l = append(l, random(r, 5, append(leaves(), odds()...)))
	}
	for _, p := range l {
		before := copyOf(p)
		got := eval.Plain(p)
		if !alike(p, before) {
			t.Fatalf("Plain changed %+v to %+v", before, p)
		}
		want := copyOf(got)
		scribble(got)
		if !alike(p, before) {
			t.Fatalf("what Plain told of %+v shares memory with it", before)
		}
		got = eval.Plain(p)
		scribble(p)
		if !alike(got, want) {
			t.Fatalf("what Plain told of %+v was %+v, and is changed with it", before, want)
		}
	}
}

// TestPlainListsApart lets two like Kids of one filter share memory: what is told has each in memory of its own: P4.2.
func TestPlainListsApart(t *testing.T) {
	shared := []api.Pred{less(1), less(2), less(3)}
	for _, p := range []api.Pred{
		or(and(shared...), not(and(shared...))),
		and(or(shared...), not(or(shared...)), not(and(or(shared...), more(1)))),
		or(and(shared[:2]...), and(shared...), and(shared[1:]...)),
		and(or(and(shared...), more(1)), or(and(shared...), more(2))),
	} {
		got := eval.Plain(p)
		want := copyOf(got)
		for i, kid := range got.Kids {
			scribble(kid)
			for j := i + 1; j < len(got.Kids); j++ {
				if !alike(got.Kids[j], want.Kids[j]) {
					t.Errorf("Kids %d and %d of %+v share memory", i, j, want)
				}
			}
		}
	}
}

// alike is Same, but that what is no number is like itself.
func alike(a, b api.Pred) bool {
	if a.Op != b.Op || a.Text != b.Text || a.N != b.N || len(a.Kids) != len(b.Kids) {
		return false
	}
	if a.At != b.At && (a.At == a.At || b.At == b.At) {
		return false
	}
	for i := range a.Kids {
		if !alike(a.Kids[i], b.Kids[i]) {
			return false
		}
	}
	return true
}

// TestAnyArguments asks that each call ends, panics at nothing, and answers the same once more, with no argument changed: P1, R2, R4.
func TestAnyArguments(t *testing.T) {
	r := rand.New(rand.NewSource(9))
	xs := append(items(), api.Item{}, api.Item{Id: strings.Repeat("x", 300), Kind: "\xff", Num: math.MaxInt, At: complex(infinite, noNumber), Dead: true})
	for range 5000 {
		p := random(r, 1+r.Intn(7), append(leaves(), odds()...))
		before := copyOf(p)
		x := xs[r.Intn(len(xs))]
		if eval.Has(p, x) != eval.Has(p, x) || !alike(eval.Plain(p), eval.Plain(p)) {
			t.Fatalf("%+v isn't answered the same twice", p)
		}
		if eval.Has(not(p), x) == eval.Has(p, x) {
			t.Fatalf("a Not of %+v isn't the other way round", p)
		}
		if !alike(p, before) {
			t.Fatalf("%+v was changed to %+v", before, p)
		}
	}
}

// TestEnds asks for what is very deep, and very wide: P1, P4.1.
func TestEnds(t *testing.T) {
	x := jar()
	nots, ors, mixed := less(6), less(6), less(6)
	for i := range 60000 {
		nots = not(nots)
		ors = or(ors)
		mixed = []func(...api.Pred) api.Pred{and, or}[i%2](less(6), mixed)
	}
	for _, p := range []api.Pred{nots, ors, mixed, or(times(100000, less(6))...), and(times(100000, and(less(6)))...)} {
		if !eval.Has(p, x) || !pred.Same(eval.Plain(p), less(6)) {
			t.Error("what is very deep, or very wide, hasn't it, or isn't made plain")
		}
	}
	chain := less(0)
	for i := 1; i < 1000; i++ {
		chain = or(less(i), chain)
	}
	if p := eval.Plain(chain); len(p.Kids) != 1000 || p.Kids[0].N != 999 || p.Kids[999].N != 0 {
		t.Error("an Or of 1000 Ors, each in the one ahead, isn't made plain")
	}
}
