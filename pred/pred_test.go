package pred_test

import (
	"math"
	"math/rand"
	"strings"
	"testing"

	"gallipot/api"
	"gallipot/item"
	"gallipot/place"
	"gallipot/pred"
)

var (
	noNumber = math.NaN()
	infinite = math.Inf(1)
	minus0   = math.Copysign(0, -1)

	star = api.Pred{Op: api.Star}
	none = api.Pred{Op: api.None}
)

func and(kids ...api.Pred) api.Pred { return api.Pred{Op: api.And, Kids: kids} }
func or(kids ...api.Pred) api.Pred  { return api.Pred{Op: api.Or, Kids: kids} }
func not(kids ...api.Pred) api.Pred { return api.Pred{Op: api.Not, Kids: kids} }
func kind(s string) api.Pred        { return api.Pred{Op: api.Kind, Text: s} }
func prefix(s string) api.Pred      { return api.Pred{Op: api.Prefix, Text: s} }
func less(n int) api.Pred           { return api.Pred{Op: api.Less, N: n} }
func more(n int) api.Pred           { return api.Pred{Op: api.More, N: n} }

func near(c complex128, n int) api.Pred { return api.Pred{Op: api.Near, At: c, N: n} }

// times are n filters like p.
func times(n int, p api.Pred) []api.Pred {
	var l []api.Pred
	for range n {
		l = append(l, p)
	}
	return l
}

// under is p, n levels farther down: below Nots, Ors and Ands of one.
func under(n int, p api.Pred) api.Pred {
	for i := range n {
		p = []func(...api.Pred) api.Pred{not, or, and}[i%3](p)
	}
	return p
}

// twice is p doubled n times over: 2 to the n of p at its leaves, in memory of n levels alone.
func twice(n int, p api.Pred) api.Pred {
	for range n {
		p = or(p, p)
	}
	return p
}

// copyOf is p in memory of its own.
func copyOf(p api.Pred) api.Pred {
	p.Text = strings.Clone(p.Text)
	kids := p.Kids
	p.Kids = nil
	for _, kid := range kids {
		p.Kids = append(p.Kids, copyOf(kid))
	}
	return p
}

// leaves are filters without Kids that may be, one at least of each Op but Not.
func leaves() []api.Pred {
	return []api.Pred{
		star, none, kind(""), kind("pot"), prefix(""), prefix("ja"), less(3), more(-3), near(3-4i, 25), near(0, 0), and(), or(),
	}
}

// odds are filters that may not be, each by its own Op alone.
func odds() []api.Pred {
	return []api.Pred{
		{}, {Op: -1}, {Op: 11}, not(), not(star, star), {Op: api.Star, Kids: []api.Pred{star}}, kind("A"), prefix("abcdefghi"),
		less(1000001), more(-1000001), near(0.5, 1), near(0, -1), near(0, 8000001), {Op: api.And, N: 1}, {Op: api.Or, Text: "a"}, {Op: api.None, At: 1i},
	}
}

// wide are filters of n parts in shapes of at most 5 levels (n is 6 at least).
func wide(n int) []api.Pred {
	half := (n - 3) / 2
	return []api.Pred{
		or(times(n-1, star)...),
		and(times(n-1, or())...),
		not(or(times(n-2, none)...)),
		or(or(times(half, star)...), and(times(n-3-half, less(1))...)),
		and(and(times(n-2, kind("a"))...)),
		or(star, not(and(star, or(times(n-6, more(1))...)))),
		or(not(and(or(times(n-4, prefix("b"))...)))),
	}
}

func TestMayKnown(t *testing.T) { // P3.1
	for _, p := range []api.Pred{
		star, none, kind("a"), prefix("z"), less(0), more(0), near(1+2i, 3), and(), or(), not(star), not(and()), not(not(none)),
		and(star, none, kind("pot")), or(prefix("a"), less(3), near(-1000+1000i, 8000000)),
		or(and(kind("pot"), not(less(7))), not(or(prefix("ja"), more(9)))),
		{Op: api.Star, Kids: []api.Pred{}}, {Op: api.And, Kids: []api.Pred{}}, {Op: api.Or, Kids: []api.Pred{}},
	} {
		if !pred.May(p) {
			t.Errorf("May(%+v) = false", p)
		}
	}
	for _, p := range append(odds(), api.Pred{Op: api.Not, Kids: []api.Pred{}}) {
		if pred.May(p) {
			t.Errorf("May(%+v) = true", p)
		}
	}
}

// TestMayOps tries each Op with nothing beside it: P3.1.
func TestMayOps(t *testing.T) {
	for n := -300; n <= 300; n++ {
		want := n >= 1 && n <= 9
		if got := pred.May(api.Pred{Op: n}); got != want {
			t.Errorf("Op %d with nothing: %v, want %v", n, got, want)
		}
		want = n == 8 || n == 9 || n == 10
		if got := pred.May(api.Pred{Op: n, Kids: []api.Pred{star}}); got != want {
			t.Errorf("Op %d with one of Kids: %v, want %v", n, got, want)
		}
		want = n == 8 || n == 9
		if got := pred.May(api.Pred{Op: n, Kids: []api.Pred{star, star}}); got != want {
			t.Errorf("Op %d with two of Kids: %v, want %v", n, got, want)
		}
	}
	for _, n := range []int{math.MinInt, math.MinInt32, -1 << 32, 1<<8 + 1, 1<<16 + 1, 1<<32 + 1, 1 << 62, math.MaxInt} {
		if pred.May(api.Pred{Op: n}) || pred.May(api.Pred{Op: n, Kids: []api.Pred{star}}) {
			t.Errorf("Op %d may be", n)
		}
	}
}

// TestMayNamedAlone gives each Op each of what its own line doesn't name: P3.1.
func TestMayNamedAlone(t *testing.T) {
	adds := []struct {
		name string
		of   string // the Ops that name it, by their digits (Not: x)
		put  func(p *api.Pred)
	}{
		{"a Text", "34", func(p *api.Pred) { p.Text = "a" }},
		{"an N", "567", func(p *api.Pred) { p.N = 1 }},
		{"a real part", "7", func(p *api.Pred) { p.At = 1 }},
		{"an imaginary part", "7", func(p *api.Pred) { p.At = 1i }},
		{"no number", "", func(p *api.Pred) { p.At = complex(noNumber, 0) }},
		{"no number in the imaginary part", "", func(p *api.Pred) { p.At = complex(0, noNumber) }},
		{"infinity", "", func(p *api.Pred) { p.At = complex(-infinite, 0) }},
		{"the least part of all", "", func(p *api.Pred) { p.At = complex(0, math.Nextafter(0, 1)) }},
		{"one of Kids", "89x", func(p *api.Pred) { p.Kids = []api.Pred{star} }},
		{"an N below 0", "56", func(p *api.Pred) { p.N = -1 }},
		{"-0", "123456789x", func(p *api.Pred) { p.At = complex(minus0, minus0) }},
		{"-0 and a part", "7", func(p *api.Pred) { p.At = complex(minus0, 5) }},
		{"Kids of none, not nil", "123456789", func(p *api.Pred) { p.Kids = []api.Pred{} }},
	}
	for op := api.Star; op <= api.Not; op++ {
		for _, a := range adds {
			p := api.Pred{Op: op}
			if op == api.Not {
				p.Kids = []api.Pred{star}
			}
			a.put(&p)
			want := strings.ContainsRune(a.of, rune("0123456789x"[op]))
			if got := pred.May(p); got != want {
				t.Errorf("Op %d with %s: %v, want %v", op, a.name, got, want)
			}
			if got := pred.May(or(star, and(p))); got != want {
				t.Errorf("Op %d with %s, as a Kid of a Kid: %v, want %v", op, a.name, got, want)
			}
		}
	}
}

func TestMayTexts(t *testing.T) { // P3.1
	for n := 0; n <= 20; n++ {
		s := strings.Repeat("q", n)
		if got := pred.May(kind(s)); got != (n <= 8) {
			t.Errorf("a Kind of %d bytes: %v", n, got)
		}
		if got := pred.May(prefix(s)); got != (n <= 8) {
			t.Errorf("a Prefix of %d bytes: %v", n, got)
		}
	}
	for b := range 256 {
		one := string([]byte{byte(b)})
		for _, s := range []string{one, one + "a", "a" + one, "aaa" + one + "aaaa", "aaaaaaa" + one} {
			want := b >= 'a' && b <= 'z'
			if pred.May(kind(s)) != want || pred.May(prefix(s)) != want {
				t.Errorf("a Kind, or a Prefix, %q isn't %v", s, want)
			}
		}
	}
	for _, s := range []string{strings.Repeat("a", 1<<16), strings.Repeat("a", 256), "é", "aä", "\u0430", "a\u0301", "\xff\xfe", "a b", "a*"} {
		if pred.May(kind(s)) || pred.May(prefix(s)) {
			t.Errorf("a Kind, or a Prefix, %q may be", s)
		}
	}
}

// TestMayNumbers goes through the N of each Op that has one, at its edges and far out: P3.1.
func TestMayNumbers(t *testing.T) {
	for _, c := range []struct {
		name        string
		least, most int
		make        func(n int) api.Pred
	}{
		{"Less", -1000000, 1000000, less},
		{"More", -1000000, 1000000, more},
		{"Near", 0, 8000000, func(n int) api.Pred { return near(3-4i, n) }},
		{"Near of 0", 0, 8000000, func(n int) api.Pred { return near(0, n) }},
	} {
		for _, n := range []int{
			math.MinInt, math.MinInt + 1, -1 << 32, math.MinInt32, -8000001, -8000000, -1, 0, 1, 25, 7999999, 8000000, 8000001,
			c.least - 2, c.least - 1, c.least, c.least + 1, c.most - 1, c.most, c.most + 1, c.most + 2, 1 << 31, 1 << 32, 1<<32 + 1, math.MaxInt - 1, math.MaxInt,
		} {
			if got, want := pred.May(c.make(n)), n >= c.least && n <= c.most; got != want {
				t.Errorf("%s of %d: %v, want %v", c.name, n, got, want)
			}
		}
	}
}

func TestMayPlaces(t *testing.T) { // P3.1
	for _, c := range []complex128{0, 1, -1i, 1000, -1000i, 1000 + 1000i, -1000 - 1000i, complex(minus0, 2), complex(2, minus0), complex(minus0, minus0)} {
		if !pred.May(near(c, 0)) || !pred.May(near(c, 8000000)) {
			t.Errorf("a Near of %v may not be", c)
		}
	}
	for _, c := range []complex128{
		0.5, 0.5i, -3 + 0.25i, 1001, -1001, 1001i, -1001i, 1000 + 1001i, -1001 + 1000i, 1 << 32, 1e19,
		complex(noNumber, 0), complex(0, noNumber), complex(noNumber, noNumber), complex(infinite, 0), complex(0, -infinite), complex(infinite, noNumber),
		complex(math.Nextafter(1000, infinite), 0), complex(0, math.Nextafter(0, 1)), complex(math.Nextafter(1, 0), 1),
	} {
		if pred.May(near(c, 0)) || pred.May(near(c, 25)) {
			t.Errorf("a Near of %v may be", c)
		}
	}
}

// TestMayKids puts what may be, and what may not be, at each place among Kids, at each depth: P3.1.
func TestMayKids(t *testing.T) {
	for at := range 4 {
		for down := range 5 {
			for _, p := range leaves() {
				kids := times(4, star)
				kids[at] = p
				for _, q := range []api.Pred{under(down, or(kids...)), under(down, and(kids...))} {
					if !pred.May(q) {
						t.Fatalf("May(%+v) = false", q)
					}
				}
			}
			for _, p := range odds() {
				kids := times(4, star)
				kids[at] = p
				for _, q := range []api.Pred{under(down, or(kids...)), under(down, and(kids...)), under(down, p)} {
					if pred.May(q) {
						t.Fatalf("May(%+v) = true", q)
					}
				}
			}
		}
	}
	if pred.May(not(not())) || pred.May(not(not(star, star))) || pred.May(or(not())) || pred.May(not(odds()[0])) {
		t.Error("a Not of what may not be may be")
	}
}

func TestMaySize(t *testing.T) { // P3.1
	for n := 6; n <= 40; n++ {
		for i, p := range wide(n) {
			if got := pred.Size(p); got != n {
				t.Fatalf("shape %d of %d parts has Size %d", i, n, got)
			}
			if got := pred.May(p); got != (n <= 30) {
				t.Errorf("shape %d of %d parts: %v", i, n, got)
			}
		}
	}
	// Each Kid of these may be; together they are too large.
	p, q := or(times(14, star)...), or(times(13, star)...)
	if !pred.May(p) || !pred.May(q) || !pred.May(or(p, q)) || pred.May(or(p, p)) || pred.May(or(q, p, star)) || pred.May(and(star, q, p)) {
		t.Error("the parts of several Kids aren't told together")
	}
}

func TestMayDepth(t *testing.T) { // P3.1
	for down := range 12 {
		for _, leaf := range leaves() {
			p := under(down, leaf)
			want := down <= 5
			if got := pred.May(p); got != want {
				t.Errorf("%+v, %d levels down: %v, want %v", leaf, down, got, want)
			}
			want = down <= 4
			for _, q := range []api.Pred{or(p, star, star), or(star, p, star), and(star, star, p), not(p), or(p, p)} {
				if got := pred.May(q); got != want {
					t.Errorf("May(%+v) = %v, want %v", q, got, want)
				}
			}
		}
	}
	// Six deep, and of 30 parts: both edges at once.
	if p := under(4, or(times(25, star)...)); pred.Size(p) != 30 || pred.Depth(p) != 6 || !pred.May(p) {
		t.Error("six deep, of 30 parts, may not be")
	}
	if p := under(4, or(times(26, star)...)); pred.May(p) {
		t.Error("six deep, of 31 parts, may be")
	}
	if p := under(5, or(times(24, star)...)); pred.Size(p) != 30 || pred.May(p) {
		t.Error("seven deep, of 30 parts, may be")
	}
}

func TestSizeAndDepthKnown(t *testing.T) { // P3.1
	for _, c := range []struct {
		p           api.Pred
		size, depth int
	}{
		{api.Pred{}, 1, 1},
		{star, 1, 1},
		{and(), 1, 1},
		{not(), 1, 1},
		{api.Pred{Op: api.Or, Kids: []api.Pred{}}, 1, 1},
		{near(complex(noNumber, 0), -1), 1, 1},
		{not(star), 2, 2},
		{not(star, none), 3, 2},
		{or(star, none, less(1)), 4, 2},
		{or(not(star), none), 4, 3},
		{or(none, not(star)), 4, 3},
		{and(or(star, star), not(not(none)), kind("a")), 8, 4},
		{api.Pred{Op: api.Star, Kids: []api.Pred{{}, {}}}, 3, 2},
		{api.Pred{Op: 77, Kids: []api.Pred{{Op: -77, Kids: []api.Pred{{}}}}}, 3, 3},
		{or(times(29, star)...), 30, 2},
		{or(times(30, star)...), 31, 2},
		{or(times(100000, or(star))...), 200001, 3},
		{under(5, star), 6, 6},
		{under(6, star), 7, 7},
		{under(60000, star), 60001, 60001},
		{twice(10, star), 2047, 11},
	} {
		if got := pred.Size(c.p); got != c.size {
			t.Errorf("Size of what is %d large is %d", c.size, got)
		}
		if got := pred.Depth(c.p); got != c.depth {
			t.Errorf("Depth of what is %d deep is %d", c.depth, got)
		}
	}
}

// change makes of a filter of one part another one.
type change struct {
	name string
	put  func(p *api.Pred)
}

func changes() []change {
	return []change{
		{"Op", func(p *api.Pred) { p.Op++ }},
		{"a greater Text", func(p *api.Pred) { p.Text += "a" }},
		{"another Text", func(p *api.Pred) { p.Text = "z" + p.Text[min(1, len(p.Text)):] }},
		{"a greater N", func(p *api.Pred) { p.N++ }},
		{"a lesser N", func(p *api.Pred) { p.N-- }},
		{"an N far out", func(p *api.Pred) { p.N += 1 << 32 }},
		{"the real part", func(p *api.Pred) { p.At += 1 }},
		{"the imaginary part", func(p *api.Pred) { p.At -= 1i }},
		{"infinity", func(p *api.Pred) { p.At = complex(0, infinite) }},
		{"a Kid more ahead", func(p *api.Pred) { p.Kids = append([]api.Pred{none}, p.Kids...) }},
		{"a Kid more behind", func(p *api.Pred) { p.Kids = append(append([]api.Pred{}, p.Kids...), none) }},
		{"a zero Kid behind", func(p *api.Pred) { p.Kids = append(append([]api.Pred{}, p.Kids...), api.Pred{}) }},
	}
}

func TestSameKnown(t *testing.T) { // P3.1
	for _, c := range []struct {
		a, b api.Pred
		want bool
	}{
		{api.Pred{}, api.Pred{}, true},
		{star, star, true},
		{star, none, false},
		{less(3), less(3), true},
		{less(3), less(4), false},
		{less(3), more(3), false},
		{kind("a"), prefix("a"), false},
		{kind(""), kind("a"), false},
		{prefix("ab"), prefix("a"), false},
		{near(1, 2), near(1, 2), true},
		{near(1, 2), near(1i, 2), false},
		{near(1, 2), near(1, 3), false},
		{and(), or(), false},
		{and(), api.Pred{Op: api.And, Kids: []api.Pred{}}, true},
		{or(star, none), or(star, none), true},
		{or(star, none), or(none, star), false},
		{or(star, none), and(star, none), false},
		{or(star), or(star, star), false},
		{or(star, star), or(star), false},
		{or(), or(star), false},
		{or(star), star, false},
		{not(star), not(none), false},
		{or(and(less(1), less(2)), star), or(and(less(1), less(2)), star), true},
		{or(and(less(1), less(2)), star), or(and(less(2), less(1)), star), false},
		{or(and(less(1)), and(less(2))), or(and(less(1), less(2)), and()), false},
		{under(60000, star), under(60000, star), true},
		{under(60000, star), under(60000, none), false},
		{or(times(100000, less(5))...), or(times(100000, less(5))...), true},
		{or(times(100000, less(5))...), or(append(times(99999, less(5)), less(6))...), false},
	} {
		if pred.Same(c.a, c.b) != c.want || pred.Same(c.b, c.a) != c.want {
			t.Errorf("Same of two of %d and %d parts isn't %v", pred.Size(c.a), pred.Size(c.b), c.want)
		}
	}
}

// TestSameEachField changes one field at a time, in the filter itself and far down in it: P3.1.
func TestSameEachField(t *testing.T) {
	base := api.Pred{Op: api.Or, Text: "pot", N: 7, At: 3 - 4i, Kids: []api.Pred{star, less(2)}}
	hold := func(p api.Pred) []api.Pred {
		return []api.Pred{p, or(p), or(star, p), and(p, star, star), not(or(star, not(p), none))}
	}
	for _, c := range changes() {
		other := copyOf(base)
		c.put(&other)
		l, m := hold(base), hold(other)
		for i := range l {
			if pred.Same(l[i], m[i]) || pred.Same(m[i], l[i]) {
				t.Errorf("holder %d: two that differ by %s are the same", i, c.name)
			}
			if !pred.Same(l[i], copyOf(l[i])) || !pred.Same(m[i], copyOf(m[i])) {
				t.Errorf("holder %d: a copy isn't the same, with %s or without", i, c.name)
			}
		}
	}
}

func TestSameMinusZero(t *testing.T) { // P3.1
	zeros := []complex128{0, complex(minus0, 0), complex(0, minus0), complex(minus0, minus0)}
	for _, x := range zeros {
		for _, y := range zeros {
			if !pred.Same(near(x, 1), near(y, 1)) || !pred.Same(or(star, near(x, 1)), or(star, near(y, 1))) || !pred.Same(api.Pred{Op: api.Star, At: x}, api.Pred{Op: api.Star, At: y}) {
				t.Errorf("filters of %v and %v aren't the same", x, y)
			}
		}
	}
	if !pred.Same(near(complex(minus0, 5), 1), near(complex(0, 5), 1)) {
		t.Error("filters of -0+5i and 5i aren't the same")
	}
}

func TestSameNoNumber(t *testing.T) { // P3.1
	for _, c := range []complex128{complex(noNumber, 0), complex(0, noNumber), complex(noNumber, noNumber), complex(infinite, noNumber)} {
		p := near(c, 1)
		for _, q := range []api.Pred{p, or(p), and(star, p), not(not(p))} {
			if pred.Same(q, q) || pred.Same(q, copyOf(q)) || pred.Same(q, star) {
				t.Errorf("a filter with %v is the same as one", c)
			}
		}
	}
	if p := near(complex(infinite, -infinite), 1); !pred.Same(p, p) {
		t.Error("a filter of infinity isn't the same as itself")
	}
}

// random is a filter of at most so many levels: mostly one that may be, now and then with something odd.
func random(r *rand.Rand, levels int) api.Pred {
	l := append(leaves(), kind("abcdefgh"), less(-1000000), more(1000000), near(1000i, 8000000))
	if r.Intn(40) == 0 {
		l = odds()
	}
	if levels < 2 || r.Intn(3) == 0 {
		return l[r.Intn(len(l))]
	}
	p := api.Pred{Op: []int{api.And, api.Or, api.Not}[r.Intn(3)]}
	n := r.Intn(6)
	if p.Op == api.Not && r.Intn(20) > 0 {
		n = 1
	}
	for range n {
		p.Kids = append(p.Kids, random(r, levels-1))
	}
	return p
}

// may is P3.1's word of one part and its Kids, by the chapter's own sentences.
func may(p api.Pred) bool {
	n, deepest := 1, 0
	for _, kid := range p.Kids {
		if !may(kid) {
			return false
		}
		n += pred.Size(kid)
		deepest = max(deepest, pred.Depth(kid))
	}
	text := p.Text == "" || item.Name(p.Text)
	var ok bool
	switch {
	case p.Op == api.Star || p.Op == api.None:
		ok = p.Text == "" && p.N == 0 && p.At == 0 && p.Kids == nil
	case p.Op == api.Kind || p.Op == api.Prefix:
		ok = text && p.N == 0 && p.At == 0 && p.Kids == nil
	case p.Op == api.Less || p.Op == api.More:
		ok = p.Text == "" && p.N >= -1000000 && p.N <= 1000000 && p.At == 0 && p.Kids == nil
	case p.Op == api.Near:
		ok = p.Text == "" && p.N >= 0 && p.N <= 8000000 && place.May(p.At) && p.Kids == nil
	case p.Op == api.And || p.Op == api.Or:
		ok = p.Text == "" && p.N == 0 && p.At == 0
	case p.Op == api.Not:
		ok = p.Text == "" && p.N == 0 && p.At == 0 && len(p.Kids) == 1
	}
	return ok && n <= 30 && deepest+1 <= 6
}

// TestMayByTheWords holds May against the chapter's own sentences on many filters: P3.1.
func TestMayByTheWords(t *testing.T) {
	r := rand.New(rand.NewSource(3))
	good := 0
	for range 20000 {
		p := random(r, 1+r.Intn(8))
		want := may(p)
		if pred.May(p) != want {
			t.Fatalf("May(%+v) isn't %v", p, want)
		}
		if want {
			good++
		}
	}
	if good < 2000 || good > 18000 {
		t.Errorf("%d of 20000 may be: too few of one sort", good)
	}
}

// TestMayInNot: what may be may be in a Not, unless it is too large then; each of its Kids may be: P3.2.
func TestMayInNot(t *testing.T) {
	r := rand.New(rand.NewSource(4))
	l := append(leaves(), odds()...)
	for n := 6; n <= 32; n++ {
		l = append(l, wide(n)...)
	}
	for n := range 9 {
		l = append(l, under(n, star), under(n, or(star, none)))
	}
	for range 5000 {
		l = append(l, random(r, 1+r.Intn(7)))
	}
	fit, large, deep := 0, 0, 0
	for _, p := range l {
		want := pred.May(p) && pred.Size(p) <= 29 && pred.Depth(p) <= 5
		if got := pred.May(not(p)); got != want {
			t.Fatalf("a Not of %+v: %v, want %v", p, got, want)
		}
		if !pred.May(p) {
			continue
		}
		for _, kid := range p.Kids {
			if !pred.May(kid) {
				t.Fatalf("%+v may be, but not its Kid %+v", p, kid)
			}
		}
		switch {
		case want:
			fit++
		case pred.Size(p) == 30:
			large++
		case pred.Depth(p) == 6:
			deep++
		}
	}
	if fit < 100 || large < 7 || deep < 2 {
		t.Errorf("of what may be %d fit in a Not, %d were too large, %d too deep: too few of one sort", fit, large, deep)
	}
}

// TestMayEnds asks for May of filters whose Kids share memory, so that they have far more parts than can be gone through: P1, P3.1.
func TestMayEnds(t *testing.T) {
	for _, leaf := range []api.Pred{star, {}, not()} {
		for _, n := range []int{5, 64, 1000} {
			if p := twice(n, leaf); pred.May(p) || pred.May(not(p)) || pred.May(or(star, p)) {
				t.Errorf("a filter of 2 to the %d parts may be", n)
			}
		}
	}
	if p := or(times(1<<16, or(times(1<<16, star)...))...); pred.May(p) {
		t.Error("a filter of 2 to the 32 parts may be")
	}
	if !pred.May(twice(3, star)) || pred.May(twice(4, star)) {
		t.Error("15 parts that share memory may not be, or 31 may")
	}
}

// TestAnyArguments asks that each call ends, panics at nothing, and answers the same once more, with no argument changed: P1, R2, R4.
func TestAnyArguments(t *testing.T) {
	r := rand.New(rand.NewSource(5))
	var l []api.Pred
	for range 2000 {
		p := random(r, 1+r.Intn(6))
		for _, c := range changes() {
			if r.Intn(4) == 0 {
				c.put(&p)
			}
		}
		l = append(l, p)
	}
	for i, a := range l {
		b := l[len(l)-1-i]
		a0, b0 := copyOf(a), copyOf(b)
		if pred.May(a) != pred.May(a) || pred.Size(a) != pred.Size(a) || pred.Depth(a) != pred.Depth(a) || pred.Same(a, b) != pred.Same(a, b) {
			t.Fatalf("%+v and %+v aren't answered the same twice", a, b)
		}
		if pred.Same(a, b) != pred.Same(b, a) {
			t.Fatalf("Same of %+v and %+v isn't the same both ways", a, b)
		}
		if !pred.Same(a, a0) || !pred.Same(b, b0) {
			t.Fatalf("%+v or %+v was changed, or is unlike its copy", a0, b0)
		}
		if pred.Size(a) < pred.Depth(a) || pred.Depth(a) < 1 {
			t.Fatalf("%+v has Size %d, Depth %d", a, pred.Size(a), pred.Depth(a))
		}
	}
}
