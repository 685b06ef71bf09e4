package contain_test

import (
	"math"
	"math/rand"
	"slices"
	"strings"
	"testing"

	"gallipot/api"
	"gallipot/contain"
	"gallipot/eval"
	"gallipot/pred"
)

var (
	noNumber = math.NaN()
	infinite = math.Inf(1)
	minus0   = math.Copysign(0, -1)

	star = api.Pred{Op: api.Star}
	none = api.Pred{Op: api.None}
)

func and(kids ...api.Pred) api.Pred { return api.Pred{Op: api.And, Kids: kids} }
func or(kids ...api.Pred) api.Pred  { return api.Pred{Op: api.Or, Kids: kids} }
func not(kids ...api.Pred) api.Pred { return api.Pred{Op: api.Not, Kids: kids} }
func kind(s string) api.Pred        { return api.Pred{Op: api.Kind, Text: s} }
func prefix(s string) api.Pred      { return api.Pred{Op: api.Prefix, Text: s} }
func less(n int) api.Pred           { return api.Pred{Op: api.Less, N: n} }
func more(n int) api.Pred           { return api.Pred{Op: api.More, N: n} }

func near(c complex128, n int) api.Pred { return api.Pred{Op: api.Near, At: c, N: n} }

// times are n filters like p.
func times(n int, p api.Pred) []api.Pred { return slices.Repeat([]api.Pred{p}, n) }

// chain is p below n parts of one Op, each the only one of Kids of the one above.
func chain(op, n int, p api.Pred) api.Pred {
	for range n {
		p = api.Pred{Op: op, Kids: []api.Pred{p}}
	}
	return p
}

// copyOf is p in memory of its own.
func copyOf(p api.Pred) api.Pred {
	kids := p.Kids
	p.Kids = nil
	for _, kid := range kids {
		p.Kids = append(p.Kids, copyOf(kid))
	}
	return p
}

// leaves are filters that may be, of one part, close to each other so that many are seen in others.
func leaves() []api.Pred {
	return []api.Pred{
		star, none, and(), or(),
		kind(""), kind("a"), kind("pot"),
		prefix(""), prefix("j"), prefix("ja"), prefix("jar"), prefix("a"),
		less(-4), less(-3), less(3), less(4),
		more(-4), more(-3), more(3), more(4),
		near(0, 0), near(0, 1), near(0, 25), near(1, 1), near(1i, 1), near(3-4i, 0), near(3-4i, 25),
	}
}

// odds are filters that may not be.
func odds() []api.Pred {
	return []api.Pred{
		{}, {Op: -1}, {Op: 11}, not(), not(star, none), not(less(1), less(2)), not(not()), kind("A"), kind("abcdefghi"), prefix("a b"), prefix("abcdefghi"),
		{Op: api.Star, Kids: []api.Pred{less(1)}}, {Op: api.Star, N: 1}, {Op: api.None, Text: "a"}, {Op: api.None, At: 1i},
		less(1000001), less(math.MinInt), more(-1000001), more(math.MaxInt), {Op: api.Less, Text: "a"},
		near(0.5, 1), near(1001, 1), near(complex(noNumber, 0), 1), near(complex(0, infinite), 1), near(0, -1), near(0, 8000001),
		{Op: api.And, N: 1}, {Op: api.Or, Text: "a"}, or(api.Pred{}), and(star, not()), or(less(1), or(less(2), kind("!"))), not(api.Pred{Op: 77}),
		or(times(30, star)...), and(times(30, none)...), chain(api.Or, 6, none), chain(api.And, 6, star), chain(api.Not, 6, star),
	}
}

// items are items with attributes at each side of what the leaves ask.
func items() []api.Item {
	var l []api.Item
	for _, id := range []string{"a", "j", "ja", "jar", "jars", "k"} {
		for _, k := range []string{"", "a", "pot"} {
			for _, num := range []int{-5, -4, -3, 0, 2, 3, 4} {
				for _, at := range []complex128{0, 1, 1i, 2, 1 + 1i, 3 - 4i, 6 - 8i, 1000} {
					l = append(l, api.Item{Id: id, Ver: api.Ver{R: 1, C: 1}, Stamp: 1, Kind: k, Num: num, At: at})
				}
			}
		}
	}
	return l
}

// random is a filter of at most so many levels.
func random(r *rand.Rand, levels int, l []api.Pred) api.Pred {
	if levels < 2 || r.Intn(4) == 0 {
		return l[r.Intn(len(l))]
	}
	p := api.Pred{Op: []int{api.And, api.Or, api.Not}[r.Intn(3)]}
	n := r.Intn(4)
	if p.Op == api.Not {
		n = 1
	}
	for range n {
		p.Kids = append(p.Kids, random(r, levels-1, l))
	}
	return p
}

// fitting are n filters that may be.
func fitting(r *rand.Rand, n int) []api.Pred {
	var l []api.Pred
	for len(l) < n {
		if p := random(r, 1+r.Intn(5), leaves()); pred.May(p) {
			l = append(l, p)
		}
	}
	return l
}

// some are filters that may be, of each sort.
func some() []api.Pred {
	return append(leaves(),
		not(star), not(none), not(less(3)), not(not(kind("a"))), and(less(3), more(-3)), or(less(3), more(4)), and(kind("a")), or(prefix("j")),
		or(and(less(3), kind("a")), not(or(less(4), star))), and(or(), none), or(and(), star), and(star, star), or(none, none))
}

// check asks whether p is seen in q, where both may be.
func check(t *testing.T, p, q api.Pred, want bool) {
	t.Helper()
	if !pred.May(p) || !pred.May(q) {
		t.Errorf("%+v or %+v may not be", p, q)
	}
	if got := contain.In(p, q); got != want {
		t.Errorf("In(%+v, %+v) = %v, want %v", p, q, got, want)
	}
}

func TestStarAndNone(t *testing.T) { // P5.1
	for _, p := range some() {
		check(t, p, star, true)
		check(t, none, p, true)
	}
	// All have each item, or none, but that isn't seen.
	for _, q := range []api.Pred{none, or(), less(1000000), more(-1000000), prefix(""), kind(""), near(0, 8000000), not(none), not(or()), or(less(3), more(3)), and(none, star)} {
		check(t, star, q, false)
	}
	for _, p := range []api.Pred{star, and(), less(-1000000), more(1000000), prefix(""), kind(""), near(0, 0), not(star), not(and()), and(less(3), more(3)), or(none, star)} {
		check(t, p, none, false)
	}
}

func TestTheSame(t *testing.T) { // P5.1, P5.2
	for _, p := range append(some(), fitting(rand.New(rand.NewSource(10)), 3000)...) {
		check(t, p, copyOf(p), true)
	}
	check(t, near(complex(minus0, 5), 2), near(complex(0, 5), 2), true)
	check(t, api.Pred{Op: api.Kind, Text: "a", At: complex(0, minus0)}, kind("a"), true)
	check(t, or(times(29, star)...), or(times(29, star)...), true)
	check(t, chain(api.Not, 5, kind("a")), chain(api.Not, 5, kind("a")), true)
}

// TestKind: a Kind is seen in the same one alone: P5.1.
func TestKind(t *testing.T) {
	texts := []string{"", "a", "ab", "b", "pot", "potpotpo"}
	for _, x := range texts {
		for _, y := range texts {
			check(t, kind(x), kind(y), x == y)
			check(t, kind(x), prefix(y), false)
			check(t, prefix(x), kind(y), false)
		}
	}
}

func TestLessAndMore(t *testing.T) { // P5.1
	l := []int{-1000000, -999999, -6, -5, -1, 0, 1, 4, 5, 6, 999999, 1000000}
	for _, n := range l {
		for _, m := range l {
			check(t, less(n), less(m), n <= m)
			check(t, more(n), more(m), n >= m)
			check(t, less(n), more(m), false)
			check(t, more(n), less(m), false)
		}
	}
}

func TestPrefix(t *testing.T) { // P5.1
	for _, c := range []struct {
		p, q string
		want bool
	}{
		{"", "", true}, {"a", "", true}, {"", "a", false}, {"ab", "a", true}, {"a", "ab", false}, {"ab", "ab", true}, {"ab", "b", false}, {"b", "ab", false},
		{"ab", "ac", false}, {"abc", "ac", false}, {"abcdefgh", "abcdefgh", true}, {"abcdefgh", "abcdefg", true}, {"abcdefg", "abcdefgh", false},
		{"abcdefgi", "abcdefgh", false}, {"aab", "ab", false}, {"aa", "a", true}, {"b", "a", false}, {"a", "b", false},
	} {
		check(t, prefix(c.p), prefix(c.q), c.want)
	}
}

func TestNear(t *testing.T) { // P5.1
	l := []int{0, 1, 24, 25, 26, 7999999, 8000000}
	for _, n := range l {
		for _, m := range l {
			for _, at := range []complex128{0, 1, -3 + 4i, 1000 - 1000i} {
				check(t, near(at, n), near(at, m), n <= m)
				for _, other := range []complex128{at - 1, at + 1i, at - 3 + 2i, -999} {
					// Of another place none is seen, even where it is.
					check(t, near(at, n), near(other, m), false)
				}
			}
		}
	}
	check(t, near(complex(minus0, minus0), 3), near(0, 4), true)
	check(t, near(complex(1, 0), 3), near(complex(1, minus0), 4), true)
	check(t, near(complex(minus0, 1), 4), near(complex(0, 1), 3), false)
	check(t, near(3+4i, 1), near(3-4i, 1), false)
	check(t, near(3+4i, 1), near(4+3i, 1), false)
}

// TestUnlikeOps: what has no Kids is seen in nothing of another Op, but for Star and None: P5.1.
func TestUnlikeOps(t *testing.T) {
	l := []api.Pred{kind(""), prefix(""), less(0), more(0), near(0, 0)}
	for i, p := range l {
		for j, q := range l {
			check(t, p, q, i == j)
			check(t, p, not(q), false)
			check(t, not(p), q, false)
		}
	}
	check(t, kind("a"), prefix("a"), false)
	check(t, less(0), near(0, 8000000), false)
}

// TestOrInside: an Or, to whose Kids it comes alone: P5.1.
func TestOrInside(t *testing.T) {
	for _, q := range some() {
		check(t, or(), q, true)
	}
	check(t, or(less(3)), less(3), true)
	check(t, or(less(3)), less(2), false)
	check(t, or(less(3), none), less(3), true)
	check(t, or(or(less(1), or()), or(less(2), less(3))), less(3), true)
	check(t, or(and(kind("a"), less(1)), less(2)), less(3), true)
	for at := range 4 {
		kids := []api.Pred{less(1), less(2), less(3), less(3)}
		check(t, or(kids...), less(3), true)
		for _, p := range []api.Pred{less(4), more(0), star, kind("a"), and(), not(more(0))} {
			kids[at] = p
			check(t, or(kids...), less(3), false)
		}
	}
}

// TestAndOutside: in an And, where all Kids count: P5.1.
func TestAndOutside(t *testing.T) {
	for _, p := range some() {
		check(t, p, and(), true)
	}
	check(t, less(3), and(less(3)), true)
	check(t, less(3), and(less(2)), false)
	check(t, less(3), and(star, less(3)), true)
	check(t, less(3), and(and(less(4), and()), and(less(5), less(3))), true)
	check(t, less(3), and(or(kind("a"), less(4)), less(3)), true)
	for at := range 4 {
		kids := []api.Pred{less(3), less(4), star, less(5)}
		check(t, less(3), and(kids...), true)
		for _, q := range []api.Pred{less(2), more(0), none, kind("a"), or(), not(more(3))} {
			kids[at] = q
			check(t, less(3), and(kids...), false)
		}
	}
}

// TestAndInside: an And, of which one of Kids is enough: P5.1.
func TestAndInside(t *testing.T) {
	for _, q := range []api.Pred{none, less(1000000), more(0), kind(""), prefix(""), near(0, 0), or(), or(less(1), more(1)), not(none), not(and()), and(less(3))} {
		check(t, and(), q, false)
	}
	check(t, and(less(3)), less(3), true)
	check(t, and(less(3)), less(2), false)
	check(t, and(and(kind("a"), and(less(2))), more(0)), less(3), true)
	check(t, and(kind("a"), none), less(3), true)
	check(t, and(less(3), more(3)), kind("a"), false)
	for at := range 4 {
		kids := []api.Pred{kind("a"), less(4), star, more(0)}
		check(t, and(kids...), less(3), false)
		for _, p := range []api.Pred{less(2), less(3), none, or(), or(less(2), less(3)), and(less(1), kind("b"))} {
			kids[at] = p
			check(t, and(kids...), less(3), true)
		}
	}
}

// TestOrOutside: in an Or, of which one of Kids is enough: P5.1.
func TestOrOutside(t *testing.T) {
	for _, p := range []api.Pred{star, less(-1000000), more(0), kind(""), prefix(""), near(0, 0), and(), and(less(1), more(1)), not(star), not(or()), or(less(3))} {
		check(t, p, or(), false)
	}
	check(t, less(3), or(less(3)), true)
	check(t, less(3), or(less(2)), false)
	check(t, less(3), or(or(kind("a"), or(less(4))), more(0)), true)
	check(t, less(3), or(kind("a"), star), true)
	check(t, kind("a"), or(less(3), more(3)), false)
	for at := range 4 {
		kids := []api.Pred{kind("a"), less(2), none, more(0)}
		check(t, less(3), or(kids...), false)
		for _, q := range []api.Pred{less(4), less(3), star, and(), and(less(4), less(3)), or(less(5), kind("b"))} {
			kids[at] = q
			check(t, less(3), or(kids...), true)
		}
	}
}

// TestBothSides: Ands and Ors on both sides, some of which are to be taken apart on the right one first: P5.1.
func TestBothSides(t *testing.T) {
	a, a2, b, b2, c := less(3), less(5), prefix("ja"), prefix("j"), kind("pot")
	for _, x := range []struct {
		p, q api.Pred
		want bool
	}{
		{or(a, b), or(b2, a2), true}, {or(a2, b), or(b2, a), false}, {or(a, b, c), or(a2, b2), false}, {or(a, b), or(c, b2, a2), true},
		{and(a, b), and(b2, a2), true}, {and(a2, b), and(b2, a), false}, {and(a, b, c), and(a2, b2), true}, {and(a, b), and(a2, b2, c), false},
		{and(a, b), or(a2, c), true}, {and(a, b), or(c, b2), true}, {and(a, b), or(c, more(0)), false},
		{or(a, b), and(a2, b2), false}, {or(a, and(a, c)), and(a2, less(4)), true}, {or(and(a, b), and(b, c, a)), and(b2, a2), true},
		{and(c, or(a, b)), or(a2, b2), true}, {and(c, or(a, b)), or(and(a2), more(0)), false}, {and(a, b), or(more(0), and(a2, b2)), true},
		{and(a, b), or(and(a2, c), and(b2, c)), false}, {and(or(a, c), or(b, c)), or(a2, b2), false}, {and(or(a, b), or(b, c)), and(or(a2, b2), or(c, b2)), true},
		{or(and(a, c), and(b, c)), and(c, or(a, b)), true}, {and(c, or(a, b)), or(and(a, c), and(b, c)), false},
		{or(), and(), true}, {and(), or(), false}, {or(), or(), true}, {and(), and(), true}, {and(or(), a), or(), true}, {and(), or(and(), a), true}, {or(or(), a), or(), false}, {and(), and(and(), a), false},
	} {
		check(t, x.p, x.q, x.want)
	}
}

func TestNot(t *testing.T) { // P5.1
	l := []int{-1000000, -1, 0, 1, 1000000}
	for _, n := range l {
		for _, m := range l {
			check(t, not(less(n)), not(less(m)), m <= n)
			check(t, not(more(n)), not(more(m)), m >= n)
			check(t, not(not(less(n))), not(not(less(m))), n <= m)
			check(t, not(not(not(less(n)))), not(not(not(less(m)))), m <= n)
			// What isn't less is more, but that isn't seen.
			check(t, not(less(n)), more(m), false)
			check(t, more(n), not(less(m)), false)
		}
	}
	a, b := less(3), kind("a")
	for _, x := range []struct {
		p, q api.Pred
		want bool
	}{
		{not(or(a, b)), not(a), true}, {not(a), not(or(a, b)), false}, {not(a), not(and(b, a)), true}, {not(and(b, a)), not(a), false},
		{not(star), not(a), true}, {not(a), not(star), false}, {not(a), not(none), true}, {not(none), not(a), false}, {not(and()), not(b), true}, {not(b), not(or()), true},
		{not(prefix("j")), not(prefix("ja")), true}, {not(prefix("ja")), not(prefix("j")), false}, {not(near(1, 4)), not(near(1, 3)), true}, {not(near(1, 3)), not(near(1, 4)), false}, {not(near(1, 4)), not(near(2, 3)), false},
		{not(b), not(b), true}, {not(b), not(kind("b")), false}, {not(not(a)), a, false}, {a, not(not(a)), false}, {not(a), a, false}, {a, not(a), false},
		{not(a), or(a, not(less(2))), true}, {and(b, not(less(4))), not(a), true}, {or(not(a), not(less(4))), not(a), true}, {not(a), and(not(a), not(less(2))), true},
		{not(a), not(or(not(b), a)), false}, {not(or(not(b), a)), not(not(b)), true}, {not(and(not(a), b)), not(not(a)), false}, {not(not(a)), not(and(not(less(4)), b)), true},
	} {
		check(t, x.p, x.q, x.want)
	}
}

// TestMayNot: what may not be is seen in nothing, nothing is seen in it, and it isn't in itself: P5.1.
func TestMayNot(t *testing.T) {
	for _, p := range odds() {
		if pred.May(p) {
			t.Fatalf("%+v may be", p)
		}
		for _, q := range append(some(), odds()...) {
			if contain.In(p, q) || contain.In(q, p) {
				t.Errorf("%+v, that may not be, is seen in %+v, or that is in it", p, q)
			}
		}
		for _, q := range []api.Pred{p, copyOf(p), or(p), and(p), or(star, p), and(none, p), not(p)} {
			if contain.In(p, q) || contain.In(q, p) || contain.In(q, q) || contain.In(q, star) || contain.In(none, q) {
				t.Errorf("%+v, that may not be, is seen, or sees", q)
			}
		}
	}
}

// TestLimits: of 30 parts, six deep, on both sides, and one more of each: P5.1.
func TestLimits(t *testing.T) {
	wide := func(n int) api.Pred { return or(times(n-1, less(3))...) }
	deep := func(n int) api.Pred { return chain(api.And, n-1, less(3)) }
	for n := 20; n <= 40; n++ {
		want := n <= 30
		if contain.In(wide(n), less(4)) != want || contain.In(less(2), wide(n)) != want || contain.In(wide(n), wide(30)) != want || contain.In(wide(n), star) != want {
			t.Errorf("an Or of %d parts: not %v", n, want)
		}
	}
	for n := 1; n <= 12; n++ {
		want := n <= 6
		if contain.In(deep(n), less(4)) != want || contain.In(less(2), deep(n)) != want || contain.In(deep(6), deep(n)) != want || contain.In(none, deep(n)) != want {
			t.Errorf("an And %d deep: not %v", n, want)
		}
	}
}

// sentences are what the chapter says, each for itself, of p and q that may be.
func sentences(p, q api.Pred, in func(p, q api.Pred) bool) []bool {
	kids := func(l []api.Pred, ok func(kid api.Pred) bool) (n int) {
		for _, kid := range l {
			if ok(kid) {
				n++
			}
		}
		return n
	}
	ofP := kids(p.Kids, func(kid api.Pred) bool { return in(kid, q) })
	ofQ := kids(q.Kids, func(kid api.Pred) bool { return in(p, kid) })
	return []bool{
		q.Op == api.Star, p.Op == api.None, pred.Same(p, q),
		p.Op == api.Or && ofP == len(p.Kids), q.Op == api.And && ofQ == len(q.Kids),
		p.Op == api.And && ofP >= 1, q.Op == api.Or && ofQ >= 1,
		p.Op == api.Less && q.Op == api.Less && p.N <= q.N, p.Op == api.More && q.Op == api.More && p.N >= q.N,
		p.Op == api.Prefix && q.Op == api.Prefix && strings.HasPrefix(p.Text, q.Text),
		p.Op == api.Near && q.Op == api.Near && p.At == q.At && p.N <= q.N,
		p.Op == api.Not && q.Op == api.Not && in(q.Kids[0], p.Kids[0]),
	}
}

// byWords tells by the sentences whether p is seen in q.
func byWords(p, q api.Pred) bool { return slices.Contains(sentences(p, q, byWords), true) }

// TestByTheWords holds In against the chapter's own sentences on many filters, and asks that each sentence was the only one that held, here and there: P5.1.
func TestByTheWords(t *testing.T) {
	r := rand.New(rand.NewSource(11))
	l := append(fitting(r, 600), some()...)
	seen, unseen := 0, 0
	var alone [12]int
	for i, p := range l {
		for j := range 100 {
			q := l[(i*7+j*13)%len(l)]
			held := sentences(p, q, byWords)
			want := slices.Contains(held, true)
			if got := contain.In(p, q); got != want {
				t.Fatalf("In(%+v, %+v) = %v, want %v", p, q, got, want)
			}
			if n := slices.Index(held, true); n >= 0 && !slices.Contains(held[n+1:], true) {
				alone[n]++
			}
			if want {
				seen++
			} else {
				unseen++
			}
		}
	}
	if seen < 10000 || unseen < 10000 || slices.Contains(alone[:], 0) {
		t.Errorf("%d are seen, %d aren't, by each sentence alone %v: too few of one sort", seen, unseen, alone)
	}
}

// hadBy tells which of l p has.
func hadBy(p api.Pred, l []api.Item) []bool {
	had := make([]bool, len(l))
	for i, x := range l {
		had[i] = eval.Has(p, x)
	}
	return had
}

// TestSeenIsSo: no filter is seen in another one where an item is had by the one and not by the other: P5.2.
func TestSeenIsSo(t *testing.T) {
	xs := items()
	var l []api.Pred
	for _, p := range leaves() {
		l = append(l, p, not(p))
		for _, q := range leaves() {
			l = append(l, and(p, q), or(p, q))
		}
	}
	l = append(l, fitting(rand.New(rand.NewSource(12)), 300)...)
	had := make([][]bool, len(l))
	for i, p := range l {
		had[i] = hadBy(p, xs)
	}
	seen, apart := 0, 0
	for i, p := range l {
		for j, q := range l {
			in := contain.In(p, q)
			if in {
				seen++
			}
			for k := range xs {
				if had[i][k] && !had[j][k] {
					apart++
					if in {
						t.Fatalf("%+v is seen in %+v, and has %+v that this hasn't", p, q, xs[k])
					}
					break
				}
			}
		}
	}
	if seen < 20000 || apart < 20000 {
		t.Errorf("%d are seen in others, %d have what others haven't: too few of one sort", seen, apart)
	}
}

// TestSeenOnward: what is plain to see goes on: in a Not the other way round, in an Or or an And with others beside it: P5.1, P5.2.
func TestSeenOnward(t *testing.T) {
	l := some()
	for _, p := range l {
		for _, q := range l {
			if !contain.In(p, q) {
				continue
			}
			for _, x := range []struct{ p, q api.Pred }{
				{not(q), not(p)}, {or(p, less(3)), or(less(3), q)}, {and(less(3), p), and(q, less(3))}, {and(p, star), or(none, q)}, {or(none, p), and(star, q)},
			} {
				if pred.May(x.p) && pred.May(x.q) && !contain.In(x.p, x.q) {
					t.Errorf("%+v isn't seen in %+v", x.p, x.q)
				}
			}
		}
	}
}

// TestEnds asks for what has many ways through both, is very deep, very wide, or has more parts than can be gone through: P1, P5.1.
func TestEnds(t *testing.T) {
	var as, bs []api.Pred
	for n := range 25 {
		as, bs = append(as, less(n)), append(bs, more(n))
	}
	inside, outside := chain(api.And, 4, and(as...)), chain(api.Or, 4, or(bs...))
	check(t, inside, outside, false)
	check(t, not(chain(api.Or, 3, or(bs[:20]...))), not(chain(api.And, 3, and(as[:20]...))), false)
	check(t, chain(api.Or, 4, or(bs...)), chain(api.And, 4, and(as...)), false)
	twice := none
	for range 1000 {
		twice = or(twice, twice)
	}
	for _, p := range []api.Pred{twice, and(twice, none), chain(api.Not, 60000, star), chain(api.Or, 60000, none), or(times(100000, none)...)} {
		if contain.In(p, p) || contain.In(p, star) || contain.In(none, p) || contain.In(or(p), and(p)) {
			t.Error("what is too large is seen, or sees")
		}
	}
}

// alike is Same, but that what is no number is like itself.
func alike(a, b api.Pred) bool {
	at := a.At == b.At || a.At != a.At && b.At != b.At
	return a.Op == b.Op && a.Text == b.Text && a.N == b.N && at && slices.EqualFunc(a.Kids, b.Kids, alike)
}

// TestAnyArguments asks that each call ends, panics at nothing, and answers the same once more, with no argument changed: P1, R2.
func TestAnyArguments(t *testing.T) {
	r := rand.New(rand.NewSource(13))
	l := append(leaves(), odds()...)
	for range 20000 {
		p, q := random(r, 1+r.Intn(7), l), random(r, 1+r.Intn(7), l)
		p0, q0 := copyOf(p), copyOf(q)
		in := contain.In(p, q)
		if contain.In(p, q) != in || contain.In(p0, q0) != in {
			t.Fatalf("In(%+v, %+v) isn't the same twice", p, q)
		}
		if in && (!pred.May(p) || !pred.May(q)) {
			t.Fatalf("In(%+v, %+v), where one may not be", p, q)
		}
		if contain.In(p, p) != pred.May(p) {
			t.Fatalf("In(%+v, itself) isn't whether it may be", p)
		}
		if !alike(p, p0) || !alike(q, q0) {
			t.Fatalf("%+v or %+v was changed", p0, q0)
		}
	}
}
