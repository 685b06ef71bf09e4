package tree_test

import (
	"math"
	"math/rand"
	"slices"
	"testing"

	"gallipot/api"
	"gallipot/contain"
	"gallipot/pred"
	"gallipot/tree"
)

var (
	noNumber = math.NaN()
	infinite = math.Inf(1)
	minus0   = math.Copysign(0, -1)

	star = api.Pred{Op: api.Star}
	none = api.Pred{Op: api.None}
)

func and(kids ...api.Pred) api.Pred { return api.Pred{Op: api.And, Kids: kids} }
func or(kids ...api.Pred) api.Pred  { return api.Pred{Op: api.Or, Kids: kids} }
func not(kids ...api.Pred) api.Pred { return api.Pred{Op: api.Not, Kids: kids} }
func kind(s string) api.Pred        { return api.Pred{Op: api.Kind, Text: s} }
func prefix(s string) api.Pred      { return api.Pred{Op: api.Prefix, Text: s} }
func less(n int) api.Pred           { return api.Pred{Op: api.Less, N: n} }
func more(n int) api.Pred           { return api.Pred{Op: api.More, N: n} }

func near(at complex128, n int) api.Pred { return api.Pred{Op: api.Near, At: at, N: n} }

// list is its filters.
func list(l ...api.Pred) []api.Pred { return l }

// times are n filters like p.
func times(n int, p api.Pred) []api.Pred { return slices.Repeat(list(p), n) }

// nest is p below n parts of one Op, each the only one of Kids of the one above.
func nest(op, n int, p api.Pred) api.Pred {
	for range n {
		p = api.Pred{Op: op, Kids: list(p)}
	}
	return p
}

// at are places in the tree: a parent and a level by turns.
func at(l ...int) []tree.Node {
	var nodes []tree.Node
	for i := 0; i < len(l); i += 2 {
		nodes = append(nodes, tree.Node{Parent: l[i], Level: l[i+1]})
	}
	return nodes
}

// row is a tree of n, each of which but the first has the one ahead of it as its parent.
func row(n int) []tree.Node {
	var nodes []tree.Node
	for i := range n {
		nodes = append(nodes, tree.Node{Parent: i, Level: i})
	}
	return nodes
}

// rowBut is a tree of n, of which the root stands at i, and of the others each but the first has the one of them ahead of it as its parent.
func rowBut(n, i int) []tree.Node {
	nodes, last := make([]tree.Node, n), tree.Node{Parent: i + 1, Level: 1}
	for k := range nodes {
		if k != i {
			nodes[k] = last
			last = tree.Node{Parent: k + 1, Level: last.Level + 1}
		}
	}
	return nodes
}

// fanBut is a tree of n, of which the root stands at i, and is the parent of all others.
func fanBut(n, i int) []tree.Node {
	nodes := slices.Repeat(at(i+1, 1), n)
	nodes[i] = tree.Node{}
	return nodes
}

// with is l with p at place i.
func with(l []api.Pred, i int, p api.Pred) []api.Pred { return slices.Insert(slices.Clone(l), i, p) }

// odds are filters that may not be: each Op with what it hasn't, at the edges, too large, too deep.
func odds() []api.Pred {
	return []api.Pred{
		{}, {Op: -1}, {Op: 11}, {Op: math.MinInt}, {Op: math.MaxInt},
		{Op: api.Star, N: 1}, {Op: api.Star, Text: "a"}, {Op: api.Star, At: 1i}, {Op: api.Star, Kids: list(star)}, {Op: api.Star, At: complex(noNumber, 0)},
		{Op: api.None, Text: "a"}, {Op: api.None, Kids: list(none)}, kind("A"), kind("abcdefghi"), prefix("a b"), prefix("abcdefghi"), {Op: api.Kind, N: 1},
		less(1000001), less(-1000001), more(math.MinInt), more(math.MaxInt), {Op: api.Less, Text: "a"},
		near(0.5, 1), near(1001, 1), near(-1001i, 1), near(complex(noNumber, 0), 1), near(complex(0, infinite), 1), near(0, -1), near(0, 8000001),
		not(), not(star, none), not(less(1), less(2)), not(not()), {Op: api.And, N: 1}, {Op: api.Or, Text: "a"},
		or(api.Pred{}), and(star, not()), or(less(1), or(less(2), kind("!"))), not(api.Pred{Op: 77}),
		or(times(30, star)...), and(times(30, none)...), or(times(15, or(star))...), nest(api.Or, 6, none), nest(api.And, 6, star), nest(api.Not, 6, star),
	}
}

// pool are filters that may be, of which many are seen in others, some of them in each other.
func pool() []api.Pred {
	return []api.Pred{
		star, none, and(), or(), and(star), or(star), not(star), not(none), not(not(star)), and(star, and()), or(none, or()),
		less(3), less(4), less(5), more(3), more(4), kind("a"), kind("pot"), kind(""), prefix(""), prefix("j"), prefix("ja"), prefix("jar"),
		near(0, 0), near(0, 25), near(0, 26), near(3-4i, 25), near(complex(minus0, 0), 25),
		or(less(3)), and(less(3)), or(none, less(4)), and(star, less(4)), not(less(3)), not(less(4)), not(more(3)), not(not(less(3))),
		and(less(3), kind("a")), and(less(4), kind("a")), and(kind("a"), less(3)), and(less(5), prefix("j")), and(less(3), kind("a"), prefix("ja")), and(less(3), more(3)),
		or(less(3), kind("a")), or(kind("a"), less(4)), or(less(5), kind("a"), kind("pot")), or(and(less(3), kind("a")), and(less(4), kind("a"))), not(or(less(3), kind("a"))), not(and(less(3), kind("a"))),
		or(times(29, less(3))...), and(times(29, less(3))...), nest(api.Or, 5, less(3)), nest(api.And, 5, less(3)), nest(api.Not, 5, less(3)),
	}
}

// roomy is l in memory of its own, with room behind all its lists, in which something stands.
func roomy(l []api.Pred) []api.Pred {
	room := append(slices.Clone(l), api.Pred{Op: 98, Text: "room"}, api.Pred{Op: 97})
	for i, p := range l {
		room[i].Kids = roomy(p.Kids)
	}
	return slices.Clip(room)[:len(l)]
}

// untouched tells whether l is what roomy told of was, behind all its lists, too.
func untouched(l, was []api.Pred) bool { return written(full(l), full(roomy(was))) }

// full is l with what stands behind its length.
func full[T any](l []T) []T { return l[:cap(l)] }

// written tells whether both are written alike, with what stands behind the lists of Kids.
func written(a, b []api.Pred) bool {
	return slices.EqualFunc(a, b, func(p, q api.Pred) bool {
		return p.Op == q.Op && p.Text == q.Text && p.N == q.N && bits(p.At) == bits(q.At) && len(p.Kids) == len(q.Kids) && written(full(p.Kids), full(q.Kids))
	})
}

// bits tells how c is written.
func bits(c complex128) [2]uint64 {
	return [2]uint64{math.Float64bits(real(c)), math.Float64bits(imag(c))}
}

// check asks where l is placed, that it stays as it is, and that what follows follows.
func check(t *testing.T, l []api.Pred, want []tree.Node) {
	t.Helper()
	given := roomy(l)
	got := tree.Place(given)
	if !slices.Equal(got, want) {
		t.Fatalf("Place(%+v) = %v, want %v", l, got, want)
	}
	if !untouched(given, l) {
		t.Fatalf("Place(%+v) changed it", l)
	}
	if len(want) > 0 {
		checkWays(t, l, got)
	}
}

// checkWays asks that from each one, parent by parent, the root is reached, in as many steps as its level, and that each one's filter is seen in its parent's: P20.3.
func checkWays(t *testing.T, l []api.Pred, nodes []tree.Node) {
	t.Helper()
	if len(nodes) != len(l) {
		t.Fatalf("Place(%+v) = %v", l, nodes)
	}
	root := slices.IndexFunc(l, func(p api.Pred) bool { return p.Op == api.Star })
	for i := range l {
		n := i
		for range nodes[i].Level {
			parent := nodes[n].Parent - 1
			if parent < 0 || parent >= len(l) || !contain.In(l[n], l[parent]) {
				t.Fatalf("Place(%+v) = %v: it isn't seen in the parent of number %d", l, nodes, n)
			}
			n = parent
		}
		if n != root || nodes[n] != (tree.Node{}) {
			t.Fatalf("Place(%+v) = %v: from number %d the root isn't reached", l, nodes, i)
		}
	}
}

// byWords tells by the chapter's sentences where l is placed.
func byWords(l []api.Pred) []tree.Node {
	if len(l) > 8 {
		return nil
	}
	var order, rest []int
	for i, p := range l {
		if !pred.May(p) {
			return nil
		}
		if p.Op == api.Star && len(order) == 0 {
			order = append(order, i)
		} else {
			rest = append(rest, i)
		}
	}
	if len(order) == 0 {
		return nil
	}
	nodes := make([]tree.Node, len(l))
	for _, i := range rest {
		var seenIn []int
		for _, j := range order {
			if contain.In(l[i], l[j]) {
				seenIn = append(seenIn, j)
			}
		}
		// Of alike ones it leaves the first one ahead.
		slices.SortStableFunc(seenIn, func(a, b int) int { return nodes[b].Level - nodes[a].Level })
		nodes[i] = tree.Node{Parent: seenIn[0] + 1, Level: nodes[seenIn[0]].Level + 1}
		order = append(order, i)
	}
	return nodes
}

// orders calls do with l in each order.
func orders(l []api.Pred, n int, do func([]api.Pred)) {
	if n == len(l) {
		do(l)
		return
	}
	for i := n; i < len(l); i++ {
		l[n], l[i] = l[i], l[n]
		orders(l, n+1, do)
		l[n], l[i] = l[i], l[n]
	}
}

func TestExample(t *testing.T) { // P20.1
	check(t, list(star, less(5), less(3)), at(0, 0, 1, 1, 2, 2))
}

func TestNothing(t *testing.T) { // P20.1
	if l := tree.Place(nil); len(l) > 0 {
		t.Errorf("Place(nil) = %v", l)
	}
	check(t, list(), nil)
}

// TestNoRoot asks of lists without a Star, some of which have all: P20.1.
func TestNoRoot(t *testing.T) {
	for _, p := range pool() {
		if p.Op != api.Star {
			check(t, list(p), nil)
			check(t, list(p, p), nil)
			check(t, list(p, less(3), and()), nil)
			check(t, times(8, p), nil)
		}
	}
	check(t, list(less(5), less(3)), nil)
	check(t, list(and(), or(star), not(none), near(0, 8000000), prefix(""), more(-1000000)), nil)
}

func TestRootAlone(t *testing.T) { // P20.1
	check(t, list(star), at(0, 0))
	check(t, list(api.Pred{Op: api.Star, At: complex(minus0, minus0), Kids: list()}), at(0, 0))
}

// TestSecondStars: the first Star is the root, others are placed as any other one is: P20.1.
func TestSecondStars(t *testing.T) {
	for n := range 8 {
		check(t, times(n+1, star), row(n+1))
	}
	for _, c := range []struct {
		l    []api.Pred
		want []tree.Node
	}{
		{list(star, less(5), less(3)), at(0, 0, 1, 1, 2, 2)},
		{list(less(5), star, less(3)), at(2, 1, 0, 0, 1, 2)},
		{list(less(5), less(3), star), at(3, 1, 1, 2, 0, 0)},
		{list(less(3), less(5), star), at(3, 1, 3, 1, 0, 0)},
		{list(star, star, less(5), less(3)), at(0, 0, 1, 1, 2, 2, 3, 3)},
		{list(star, less(5), star, less(3)), at(0, 0, 1, 1, 1, 1, 2, 2)},
		{list(star, less(5), less(3), star), at(0, 0, 1, 1, 2, 2, 1, 1)},
		{list(less(5), star, star, less(3)), at(2, 1, 0, 0, 2, 1, 1, 2)},
		{list(less(5), star, less(3), star), at(2, 1, 0, 0, 1, 2, 2, 1)},
		{list(less(5), less(3), star, star), at(3, 1, 1, 2, 0, 0, 3, 1)},
		{list(star, star, star, kind("a")), at(0, 0, 1, 1, 2, 2, 3, 3)},
		{list(kind("a"), star, star, star), at(2, 1, 0, 0, 2, 1, 3, 2)},
		{list(star, and(), star, less(5)), at(0, 0, 1, 1, 2, 2, 3, 3)},
		{list(and(), star, star, less(5)), at(2, 1, 0, 0, 1, 2, 3, 3)},
		{list(star, kind("a"), star, less(5)), at(0, 0, 1, 1, 1, 1, 3, 2)},
		{list(kind("a"), less(5), star, star, less(3)), at(3, 1, 3, 1, 0, 0, 3, 1, 2, 2)},
		{list(kind("a"), star, star, less(5), less(3)), at(2, 1, 0, 0, 2, 1, 3, 2, 4, 3)},
		{list(star, less(5), more(9), star, less(4), less(3)), at(0, 0, 1, 1, 1, 1, 1, 1, 2, 2, 5, 3)},
	} {
		check(t, c.l, c.want)
	}
}

// TestMayNot: none is told if one may not be, wherever it stands, whether there is a root or not: P20.1, R3.
func TestMayNot(t *testing.T) {
	for _, odd := range odds() {
		if pred.May(odd) {
			t.Fatalf("%+v may be", odd)
		}
		check(t, list(odd), nil)
		check(t, list(odd, odd), nil)
		check(t, times(8, odd), nil)
		for _, l := range [][]api.Pred{list(star), list(less(5)), list(star, less(5), less(3)), list(kind("a"), less(5), star), list(less(5), less(3)), times(7, star), list(kind("a"), star, kind("b"), kind("c"), star, less(5), less(3))} {
			for i := range len(l) + 1 {
				check(t, with(l, i, odd), nil)
			}
		}
	}
}

// TestLarge asks of filters of 30 parts and 31, six deep and seven, each of which sees Less 3, and is seen in it, if it may be: P20.1.
func TestLarge(t *testing.T) {
	for _, c := range []struct {
		p   api.Pred
		may bool
	}{
		{or(times(29, less(3))...), true}, {or(times(30, less(3))...), false}, {and(times(29, less(3))...), true}, {and(times(30, less(3))...), false},
		{or(append(times(14, and(less(3))), none)...), true}, {or(times(15, and(less(3)))...), false},
		{nest(api.Or, 5, less(3)), true}, {nest(api.Or, 6, less(3)), false}, {nest(api.And, 5, less(3)), true}, {nest(api.And, 6, less(3)), false},
	} {
		if !c.may {
			check(t, list(c.p, star, less(3)), nil)
			check(t, list(star, c.p, less(3)), nil)
			check(t, list(star, less(3), c.p), nil)
			continue
		}
		check(t, list(c.p, star, less(3)), at(2, 1, 0, 0, 1, 2))
		check(t, list(star, c.p, less(3)), row(3))
		check(t, list(star, less(3), c.p), row(3))
	}
}

// TestHowMany: 8 filters are placed, more aren't, whatever they are: P20.1.
func TestHowMany(t *testing.T) {
	falling, apart, fan := list(star), list(star), at(0, 0)
	for n := range 8 {
		check(t, times(n+1, star), row(n+1))
		check(t, falling, row(n+1))
		check(t, apart, fan)
		falling, apart, fan = append(falling, less(-n)), append(apart, kind("abcdefgh"[n:n+1])), append(fan, tree.Node{Parent: 1, Level: 1})
	}
	check(t, falling, nil)
	check(t, apart, nil)
	for n := range 20 {
		check(t, times(9+n, star), nil)
		check(t, append(falling, times(n, none)...), nil)
		check(t, times(9+n, less(3)), nil)
		check(t, times(9+n, api.Pred{}), nil)
	}
	for i := range 9 {
		for _, l := range [][]api.Pred{falling, apart, times(9, star), times(9, none)} {
			l = slices.Clone(l)
			l[i] = not()
			check(t, l, nil)
			l[i] = star
			check(t, l, nil)
		}
	}
	check(t, append(times(7, none), star), at(8, 1, 1, 2, 2, 3, 3, 4, 4, 5, 5, 6, 6, 7, 0, 0))
	check(t, append(times(8, none), star), nil)
}

// chains are filters each of which is seen in the one ahead of it, and not the other way round.
func chains() [][]api.Pred {
	return [][]api.Pred{
		list(less(1000000), less(5), less(4), less(0), less(-1), less(-999999), less(-1000000)),
		list(more(-1000000), more(-1), more(0), more(1), more(2), more(7), more(1000000)),
		list(prefix(""), prefix("j"), prefix("ja"), prefix("jar"), prefix("jars"), prefix("jarsj"), prefix("jarsjars")),
		list(near(1i, 8000000), near(1i, 26), near(1i, 25), near(1i, 5), near(1i, 2), near(1i, 1), near(1i, 0)),
		list(not(less(1)), not(less(2)), not(less(3)), not(less(4)), not(less(5)), not(less(6)), not(less(7))),
		list(not(prefix("abc")), not(prefix("ab")), not(prefix("a"))),
		list(not(not(less(5))), not(not(less(4))), not(not(less(3)))),
		list(or(kind("a"), kind("b"), kind("c")), or(kind("c"), kind("a")), kind("a"), and(kind("a"), less(3)), and(less(2), kind("a")), none),
		list(less(5), and(kind("a"), less(5)), and(less(4), kind("a"), prefix("j")), and(prefix("j"), less(4), kind("a"), more(0)), none),
		list(or(less(5), kind("a")), or(less(4), kind("a")), or(and(less(4), prefix("j")), kind("a")), and(or(kind("a"), less(4)), prefix("j"), kind("a"))),
		list(and(), prefix(""), prefix("a"), or(and(prefix("ab"), less(3)), and(prefix("abc"), more(9))), and(prefix("abcd"), more(9)), or()),
		list(not(and(less(3), kind("a"))), not(or(less(3), prefix("j"))), not(or(less(4), prefix("j"), star))),
		list(not(and(near(0, 4), kind("a"))), not(near(0, 4)), not(near(0, 5))),
	}
}

// TestChains: what is seen in the one ahead is placed below it; backwards it isn't, as the deeper one isn't placed yet: P20.1.
func TestChains(t *testing.T) {
	for _, l := range chains() {
		n := len(l)
		for i := range n {
			for j := range n {
				if got := contain.In(l[i], l[j]); got != (i >= j) {
					t.Fatalf("In(%+v, %+v) = %v", l[i], l[j], got)
				}
			}
		}
		for i := range n + 1 {
			check(t, with(l, i, star), rowBut(n+1, i))
		}
		slices.Reverse(l)
		for i := range n + 1 {
			check(t, with(l, i, star), fanBut(n+1, i))
		}
	}
}

// TestApart: what is seen in the root alone is placed below it, in any order: P20.1.
func TestApart(t *testing.T) {
	for _, l := range [][]api.Pred{
		{kind("a"), kind("b"), kind(""), kind("ab"), kind("ba"), kind("aa"), kind("abcdefgh")},
		{less(3), more(3), kind("pot"), prefix("j"), near(0, 3), not(less(3)), not(kind("pot"))},
		{near(0, 1), near(1, 2), near(1i, 3), near(-1, 4), near(-1i, 5), near(1000, 6), near(-1000i, 8000000)},
		{prefix("a"), prefix("b"), prefix("ca"), prefix("cb"), prefix("cca"), prefix("dd"), prefix("da")},
		{or(kind("a"), kind("b")), or(kind("b"), kind("c")), or(kind("c"), kind("a")), and(less(3), more(1)), and(less(4), more(2)), not(and(less(3), more(1))), not(and(less(4), more(2)))},
	} {
		for n := range len(l) + 1 {
			for i := range n + 1 {
				check(t, with(l[:n], i, star), fanBut(n+1, i))
				check(t, with(l[len(l)-n:], i, star), fanBut(n+1, i))
			}
		}
	}
}

// TestTwoParents: of two parents that are as deep it is the one that was placed first: P20.1.
func TestTwoParents(t *testing.T) {
	a, b, both := less(5), kind("a"), and(less(3), kind("a"))
	for range 2 {
		check(t, list(star, a, b, both), at(0, 0, 1, 1, 1, 1, 2, 2))
		check(t, list(a, star, b, both), at(2, 1, 0, 0, 2, 1, 1, 2))
		check(t, list(a, b, star, both), at(3, 1, 3, 1, 0, 0, 1, 2))
		check(t, list(a, b, both, star), at(4, 1, 4, 1, 1, 2, 0, 0))
		check(t, list(star, a, both, b), at(0, 0, 1, 1, 2, 2, 1, 1))
		check(t, list(star, both, a, b), at(0, 0, 1, 1, 1, 1, 1, 1))
		check(t, list(star, more(9), a, b, both), at(0, 0, 1, 1, 1, 1, 1, 1, 3, 2))
		check(t, list(star, a, b, both, both), at(0, 0, 1, 1, 1, 1, 2, 2, 4, 3))
		a, b = b, a
	}
	// Both two deep, and three.
	check(t, list(star, less(9), kind("a"), less(5), and(kind("a"), prefix("j")), and(less(3), kind("a"), prefix("j"))), at(0, 0, 1, 1, 1, 1, 2, 2, 3, 2, 4, 3))
	check(t, list(star, less(9), kind("a"), and(kind("a"), prefix("j")), less(5), and(less(3), kind("a"), prefix("j"))), at(0, 0, 1, 1, 1, 1, 3, 2, 2, 2, 4, 3))
	check(t, list(star, kind("a"), less(9), less(5), and(kind("a"), prefix("j")), and(less(3), kind("a"), prefix("j"))), at(0, 0, 1, 1, 1, 1, 3, 2, 2, 2, 4, 3))
	check(t, list(less(9), kind("a"), and(kind("a"), prefix("j")), less(5), and(less(3), kind("a"), prefix("j")), star), at(6, 1, 6, 1, 2, 2, 1, 2, 3, 3, 0, 0))
	check(t, list(less(9), less(8), prefix(""), less(7), prefix("j"), prefix("ja"), star, and(less(0), prefix("jar"))), at(7, 1, 1, 2, 7, 1, 2, 3, 3, 2, 5, 3, 0, 0, 4, 4))
	// Three, four and six that are as deep.
	check(t, list(star, kind("a"), prefix("j"), less(3), and(less(3), prefix("j"), kind("a"))), at(0, 0, 1, 1, 1, 1, 1, 1, 2, 2))
	check(t, list(kind("a"), prefix("j"), less(3), more(1), and(less(3), prefix("j"), kind("a"), more(1)), star), at(6, 1, 6, 1, 6, 1, 6, 1, 1, 2, 0, 0))
	check(t, list(near(0, 5), near(1, 5), near(2, 5), near(1i, 5), near(2i, 5), near(-1, 5), star, none), at(7, 1, 7, 1, 7, 1, 7, 1, 7, 1, 7, 1, 0, 0, 1, 2))
}

// TestDeeper: the one that is deeper is the parent, whether it stands ahead of another one or behind: P20.1.
func TestDeeper(t *testing.T) {
	x := and(less(1), kind("a"))
	check(t, list(star, kind("a"), less(5), less(3), x), at(0, 0, 1, 1, 1, 1, 3, 2, 4, 3))
	check(t, list(star, less(5), kind("a"), less(3), x), at(0, 0, 1, 1, 1, 1, 2, 2, 4, 3))
	check(t, list(star, less(5), less(3), kind("a"), x), at(0, 0, 1, 1, 2, 2, 1, 1, 3, 3))
	check(t, list(less(5), less(3), kind("a"), x, star), at(5, 1, 1, 2, 5, 1, 2, 3, 0, 0))
	check(t, list(kind("a"), less(5), less(3), star, x), at(4, 1, 4, 1, 2, 2, 0, 0, 3, 3))
	check(t, list(star, less(5), less(4), less(3), less(2), kind("a"), or(kind("a"), kind("b")), x), at(0, 0, 1, 1, 2, 2, 3, 3, 4, 4, 1, 1, 1, 1, 5, 5))
	check(t, list(star, or(kind("a"), kind("b")), kind("a"), less(5), less(4), less(3), less(2), x), at(0, 0, 1, 1, 2, 2, 1, 1, 4, 2, 5, 3, 6, 4, 7, 5))
	check(t, list(star, or(kind("a"), kind("b")), kind("a"), less(5), x, less(4), less(3), less(2)), at(0, 0, 1, 1, 2, 2, 1, 1, 3, 3, 4, 2, 6, 3, 7, 4))
}

// TestBehind: the one that is deeper, but stands behind, isn't placed yet: P20.1.
func TestBehind(t *testing.T) {
	check(t, list(star, less(3), less(5)), at(0, 0, 1, 1, 1, 1))
	check(t, list(less(3), less(5), star), at(3, 1, 3, 1, 0, 0))
	check(t, list(star, less(3), less(5), less(2)), at(0, 0, 1, 1, 1, 1, 2, 2))
	check(t, list(star, less(3), less(5), less(4)), at(0, 0, 1, 1, 1, 1, 3, 2))
	check(t, list(star, less(4), less(3), less(5), less(2)), at(0, 0, 1, 1, 2, 2, 1, 1, 3, 3))
	check(t, list(star, kind("a"), and(less(1), kind("a")), less(5), less(3)), at(0, 0, 1, 1, 2, 2, 1, 1, 4, 2))
	check(t, list(star, and(less(1), kind("a")), less(5), less(3), kind("a")), at(0, 0, 1, 1, 1, 1, 3, 2, 1, 1))
	check(t, list(none, less(3), star, none), at(3, 1, 3, 1, 0, 0, 1, 2))
	check(t, list(and(less(1), kind("a")), star, less(5), less(3), and(less(1), kind("a"))), at(2, 1, 0, 0, 2, 1, 3, 2, 4, 3))
	// A Star that isn't the root stands behind, too.
	check(t, list(less(3), star, less(2), star, less(1)), at(2, 1, 0, 0, 1, 2, 2, 1, 3, 3))
	check(t, list(less(3), kind("a"), star, star, kind("a")), at(3, 1, 3, 1, 0, 0, 3, 1, 2, 2))
}

// TestEachOther: of filters that are seen in each other each one ahead is the parent of the one behind, in any order: P20.1.
func TestEachOther(t *testing.T) {
	for _, l := range [][]api.Pred{
		{less(5), or(less(5)), and(less(5)), or(none, less(5)), and(star, less(5))},
		{none, or(), or(none), or(or(), none), none},
		{and(), and(star), and(and(), star), or(and()), or(star, less(3))},
		{and(less(5), kind("a")), and(kind("a"), less(5)), or(and(kind("a"), less(5))), and(and(less(5)), kind("a")), and(less(5), kind("a"))},
		{or(less(5), kind("a")), or(kind("a"), less(5)), and(or(less(5), kind("a"))), or(kind("a"), or(less(5))), or(kind("a"), kind("a"), less(5))},
		{not(less(5)), not(or(less(5))), not(and(less(5))), not(or(none, less(5))), or(not(less(5)))},
		{near(3-4i, 25), and(near(3-4i, 25)), or(near(3-4i, 25), near(3-4i, 24)), and(near(3-4i, 26), near(3-4i, 25)), near(3-4i, 25)},
		{prefix("ja"), or(prefix("ja"), prefix("jar")), and(prefix("ja"), prefix("j"), prefix("")), and(prefix("ja")), or(and(prefix("ja"), kind("a")), prefix("ja"))},
	} {
		orders(l, 0, func(l []api.Pred) {
			for i := range len(l) + 1 {
				check(t, with(l, i, star), rowBut(len(l)+1, i))
			}
		})
	}
}

func TestAlike(t *testing.T) { // P20.1
	for _, p := range pool() {
		for n := range 7 {
			for i := range n + 2 {
				if p.Op == api.Star && i > 0 {
					// The first of them is the root.
					continue
				}
				check(t, with(times(n+1, p), i, star), rowBut(n+2, i))
			}
		}
	}
	check(t, list(star, less(5), less(5), less(3)), at(0, 0, 1, 1, 2, 2, 3, 3))
	check(t, list(star, less(5), less(3), less(5)), at(0, 0, 1, 1, 2, 2, 2, 2))
	check(t, list(star, less(3), less(5), less(3)), at(0, 0, 1, 1, 1, 1, 2, 2))
	check(t, list(less(5), kind("a"), star, kind("a"), less(5)), at(3, 1, 3, 1, 0, 0, 2, 2, 1, 2))
	// -0 is 0, and no Kids are no Kids.
	check(t, list(near(complex(0, minus0), 5), star, near(complex(minus0, 0), 5), near(0, 4)), at(2, 1, 0, 0, 1, 2, 3, 3))
	check(t, list(star, api.Pred{Op: api.Kind, Text: "a", At: complex(minus0, 0), Kids: list()}, kind("a")), row(3))
}

// TestHasAll: what has all items, yet isn't Star, is no root, and is placed by what layer 5 sees of it: P20.1.
func TestHasAll(t *testing.T) {
	// In these each one is seen, Stars, too.
	for _, all := range []api.Pred{and(), and(and()), or(star), or(less(3), star), and(star, star), or(and(), none)} {
		check(t, list(all), nil)
		check(t, list(all, all, less(3)), nil)
		check(t, list(all, star), at(2, 1, 0, 0))
		check(t, list(star, all, star), row(3))
		check(t, list(all, star, star, less(3)), at(2, 1, 0, 0, 1, 2, 3, 3))
		check(t, list(star, less(3), all, kind("a")), at(0, 0, 1, 1, 1, 1, 3, 2))
		check(t, list(star, less(3), all, less(3)), at(0, 0, 1, 1, 1, 1, 2, 2))
	}
	// In these others aren't seen, but for what is of their Op, and what has nothing.
	for _, all := range []api.Pred{not(none), not(or()), more(-1000000), near(0, 8000000), not(and(less(3), more(3)))} {
		check(t, list(all), nil)
		check(t, list(star, all, star), fanBut(3, 0))
		check(t, list(all, star, kind("a"), star), fanBut(4, 1))
		check(t, list(kind("a"), all, prefix(""), star), fanBut(4, 3))
		check(t, list(all, star, none), at(2, 1, 0, 0, 1, 2))
	}
	check(t, list(star, prefix(""), prefix("j"), kind(""), star), at(0, 0, 1, 1, 2, 2, 1, 1, 1, 1))
	check(t, list(star, more(-1000000), more(3), less(3)), at(0, 0, 1, 1, 2, 2, 1, 1))
	check(t, list(star, not(none), not(less(3)), less(3), not(star)), at(0, 0, 1, 1, 2, 2, 1, 1, 3, 3))
	check(t, list(star, near(0, 8000000), near(0, 7999999), near(1, 0)), at(0, 0, 1, 1, 2, 2, 1, 1))
}

// TestByOps: filters of each Op that are seen in others, and such that aren't, though they have no item that those haven't: P20.1.
func TestByOps(t *testing.T) {
	for _, c := range []struct {
		q, p api.Pred
		seen bool
	}{
		{less(5), less(5), true}, {less(5), less(4), true}, {less(5), less(6), false}, {more(5), more(5), true}, {more(5), more(6), true}, {more(5), more(4), false},
		{prefix("ja"), prefix("jar"), true}, {prefix("ja"), prefix("j"), false}, {prefix("ja"), prefix("aja"), false}, {kind("a"), kind("a"), true}, {kind("a"), kind("ab"), false}, {kind("a"), kind(""), false},
		{near(1i, 5), near(1i, 5), true}, {near(1i, 5), near(1i, 4), true}, {near(1i, 5), near(1i, 6), false}, {near(1i, 5), near(-1i, 4), false}, {near(1i, 5), near(0, 0), false}, {near(complex(0, 1), 5), near(complex(minus0, 1), 2), true},
		{and(less(5), kind("a")), and(kind("a"), less(4), prefix("j")), true}, {and(less(5), kind("a")), and(kind("a"), less(6)), false}, {and(less(5), kind("a")), less(4), false}, {less(5), and(kind("a"), less(5)), true}, {less(5), and(kind("a"), less(6)), false},
		{or(less(5), kind("a")), or(kind("a"), less(4)), true}, {or(less(5), kind("a")), or(kind("a"), less(6)), false}, {or(less(5), kind("a")), less(4), true}, {less(5), or(less(4), less(5), none), true}, {less(5), or(less(4), kind("a")), false}, {or(less(3), more(3)), kind("a"), false},
		{not(less(5)), not(less(6)), true}, {not(less(5)), not(less(4)), false}, {not(less(5)), more(5), false}, {not(less(5)), more(6), false}, {not(kind("a")), kind("b"), false}, {more(5), not(less(5)), false}, {not(not(less(5))), less(4), false},
		{none, or(), true}, {none, less(-1000000), false}, {none, and(less(3), more(3)), false}, {less(-1000000), none, true}, {less(5), more(1), false}, {more(1), less(5), false},
	} {
		if c.seen {
			check(t, list(star, c.q, c.p), at(0, 0, 1, 1, 2, 2))
			check(t, list(c.q, star, c.p), at(2, 1, 0, 0, 1, 2))
			check(t, list(c.q, c.p, star), at(3, 1, 1, 2, 0, 0))
			continue
		}
		check(t, list(star, c.q, c.p), fanBut(3, 0))
		check(t, list(c.q, star, c.p), fanBut(3, 1))
		check(t, list(c.q, c.p, star), fanBut(3, 2))
	}
}

// TestOrders holds Place of some filters, in each order, against the chapter's sentences: P20.1, P20.3.
func TestOrders(t *testing.T) {
	for _, l := range [][]api.Pred{
		{star, less(5), less(4), less(3), kind("a"), and(less(3), kind("a"))},
		{star, star, less(5), and(), kind("a"), and(kind("a"), less(3))},
		{star, less(5), or(less(5)), kind("a"), and(less(5), kind("a")), none},
		{star, or(kind("a"), kind("b")), or(kind("b"), kind("c")), kind("a"), kind("b"), and(kind("b"), less(3))},
		{star, near(0, 25), near(0, 4), not(near(0, 4)), not(near(0, 25)), and(near(0, 1), not(near(0, 26)))},
		{star, prefix("j"), prefix("ja"), less(5), or(prefix("jar"), less(4)), and(less(4), prefix("jar"))},
	} {
		trees := map[[8]tree.Node]bool{}
		orders(l, 0, func(l []api.Pred) {
			want := byWords(l)
			check(t, l, want)
			var told [8]tree.Node
			copy(told[:], want)
			trees[told] = true
		})
		if len(trees) < 50 {
			t.Errorf("%+v: %d trees are too few", l, len(trees))
		}
	}
	for _, l := range [][]api.Pred{{star, less(5), less(4), not(), kind("a")}, {or(star), less(5), less(4), kind("a"), and()}} {
		orders(l, 0, func(l []api.Pred) { check(t, l, nil) })
	}
}

// TestEach holds Place of each list of up to four of some filters against the chapter's sentences: P20.1, P20.3.
func TestEach(t *testing.T) {
	some := list(star, none, and(), less(3), or(less(3)), less(4), kind("a"), and(less(3), kind("a")), not(less(4)), not())
	lists := [][]api.Pred{nil}
	for range 4 {
		var longer [][]api.Pred
		for _, l := range lists {
			check(t, l, byWords(l))
			for _, p := range some {
				longer = append(longer, with(l, len(l), p))
			}
		}
		lists = longer
	}
	for _, l := range lists {
		check(t, l, byWords(l))
	}
}

// drawn is a filter of at most so many levels, of parts from l.
func drawn(r *rand.Rand, levels int, l []api.Pred) api.Pred {
	if levels < 2 || r.Intn(3) > 0 {
		return l[r.Intn(len(l))]
	}
	p := api.Pred{Op: []int{api.And, api.Or, api.Not}[r.Intn(3)]}
	n := r.Intn(4)
	if p.Op == api.Not {
		n = 1
	}
	for range n {
		p.Kids = append(p.Kids, drawn(r, levels-1, l))
	}
	return p
}

// kin is a filter close to p, likely to be seen in it, or the other way round.
func kin(r *rand.Rand, p api.Pred, l []api.Pred) api.Pred {
	q := l[r.Intn(len(l))]
	switch r.Intn(6) {
	case 0:
		return and(p, q)
	case 1:
		return or(q, p)
	case 2:
		return p
	case 3:
		p.Kids = slices.Clone(p.Kids)
		if len(p.Kids) > 0 {
			at := r.Intn(len(p.Kids))
			p.Kids[at] = kin(r, p.Kids[at], l)
			return p
		}
	}
	if p.Op == api.Less || p.Op == api.More {
		p.N += r.Intn(5) - 2
	}
	return p
}

// TestDrawn holds Place of many lists of filters drawn at random against the chapter's sentences: P20.1, P20.3.
func TestDrawn(t *testing.T) {
	r := rand.New(rand.NewSource(1))
	from := pool()
	var levels, roots [8]int
	nothing, ties, waits := 0, 0, 0
	for range 60000 {
		var l []api.Pred
		for range min(8, r.Intn(12)) {
			p := drawn(r, 1+r.Intn(3), from)
			if len(l) > 0 && r.Intn(2) == 0 {
				p = kin(r, l[r.Intn(len(l))], from)
			}
			l = append(l, p)
		}
		if len(l) > 0 && r.Intn(8) > 0 {
			l[r.Intn(len(l))] = star
		}
		if len(l) > 0 && r.Intn(12) == 0 {
			l[r.Intn(len(l))] = odds()[r.Intn(len(odds()))]
		}
		want := byWords(l)
		check(t, l, want)
		if len(want) == 0 {
			nothing++
			continue
		}
		for i, n := range want {
			levels[n.Level]++
			if n.Level == 0 {
				roots[i]++
			}
			for j, m := range want {
				if n.Level < 2 || j == n.Parent-1 || !contain.In(l[i], l[j]) || i == j {
					continue
				}
				if j < i && m.Level == n.Level-1 {
					ties++
				}
				if j > i && m.Level >= n.Level {
					waits++
				}
			}
		}
	}
	if slices.Min(levels[:]) < 20 || slices.Min(roots[:]) < 1000 || nothing < 3000 || nothing > 30000 || ties < 3000 || waits < 3000 {
		t.Errorf("levels %v, roots at %v, %d of none, %d more as deep, %d deeper ones behind: too few of one sort", levels, roots, nothing, ties, waits)
	}
}

// TestNew: what is told is new memory, and nothing of it is kept: P20.2, R2.
func TestNew(t *testing.T) {
	for n := range 8 {
		l := times(n+1, star)
		a, b := tree.Place(l), tree.Place(l)
		for i := range full(a) {
			full(a)[i] = tree.Node{Parent: 77, Level: 99}
		}
		if !slices.Equal(b, row(n+1)) {
			t.Errorf("an answer changed with another one: %v", b)
		}
		// What stands behind it isn't another answer's, either.
		c := tree.Place(l)
		for i := range full(b) {
			full(b)[i] = tree.Node{Parent: 66, Level: 88}
		}
		if !slices.Equal(c, row(n+1)) || !slices.Equal(tree.Place(l), row(n+1)) {
			t.Errorf("an answer changed with another one: %v", c)
		}
	}
}

// TestApartFromArguments: an answer stays, whatever becomes of what was handed in: P20.2, R2.
func TestApartFromArguments(t *testing.T) {
	l := roomy(list(less(5), or(kind("a"), less(5)), star, and(less(3), kind("a")), not(less(9))))
	got := tree.Place(l)
	for _, p := range l {
		for k := range full(p.Kids) {
			full(p.Kids)[k] = none
		}
	}
	for i := range full(l) {
		full(l)[i] = star
	}
	if want := at(3, 1, 3, 1, 0, 0, 1, 2, 3, 1); !slices.Equal(got, want) {
		t.Errorf("the answer is %v, want %v", got, want)
	}
	if next := tree.Place(l); !slices.Equal(next, row(5)) {
		t.Errorf("the next answer is %v", next)
	}
}

// TestAny asks of lists of any filters that the call ends, and tells the same once more: P1, R2.
func TestAny(t *testing.T) {
	r := rand.New(rand.NewSource(2))
	from := append(pool(), odds()...)
	placed := 0
	for range 30000 {
		var l []api.Pred
		for range r.Intn(12) {
			p := drawn(r, 1+r.Intn(7), from)
			if r.Intn(9) == 0 {
				p = api.Pred{Op: r.Intn(14) - 1, Text: []string{"", "a", "A", "abcdefghi", "\xff\x00"}[r.Intn(5)], N: []int{math.MinInt, -1, 0, 1, math.MaxInt}[r.Intn(5)], At: []complex128{0, 1i, complex(noNumber, infinite), complex(minus0, -infinite), 1e300}[r.Intn(5)], Kids: l[:r.Intn(len(l)+1)]}
			}
			l = append(l, p)
		}
		if r.Intn(2) == 0 {
			l = with(l, r.Intn(len(l)+1), star)
		}
		want := byWords(l)
		if len(want) > 0 {
			placed++
		}
		check(t, l, want)
		check(t, l, want)
	}
	if placed < 1000 || placed > 20000 {
		t.Errorf("%d could be placed", placed)
	}
}

// TestManyWays asks of filters with many ways through each two of them that the call ends soon: P1.
func TestManyWays(t *testing.T) {
	var as, bs []api.Pred
	for n := range 25 {
		as, bs = append(as, less(n)), append(bs, more(n))
	}
	inside, outside := nest(api.And, 4, and(as...)), nest(api.Or, 4, or(bs...))
	check(t, list(outside, outside, outside, star, inside, inside, inside, inside), at(4, 1, 1, 2, 2, 3, 0, 0, 4, 1, 5, 2, 6, 3, 7, 4))
	check(t, list(inside, outside, inside, outside, inside, outside, inside, star), at(8, 1, 8, 1, 1, 2, 2, 2, 3, 3, 4, 3, 5, 4, 0, 0))
}

// TestHuge asks of very long lists, and of filters far larger or deeper than may be, that the call ends: P1.
func TestHuge(t *testing.T) {
	// It has far more parts than can be gone through, as its Kids share memory.
	bush, deep := star, star
	for range 60 {
		bush = and(bush, bush)
	}
	for range 1 << 20 {
		deep = not(deep)
	}
	for _, p := range []api.Pred{bush, deep, not(bush), or(bush, deep), or(times(1<<20, star)...), {Op: api.Star, Kids: list(bush)}, {Op: api.Not, Kids: times(1<<20, bush)}} {
		for _, l := range [][]api.Pred{list(p), list(star, p), list(p, star), list(star, p, less(3)), times(8, p), append(times(7, p), star), append(times(7, star), p), times(9, p), times(1<<16, p), append(times(1<<16, p), star)} {
			if got := tree.Place(l); len(got) > 0 {
				t.Errorf("%d filters, %d with the first one's Kids: %v", len(l), len(l[0].Kids), got)
			}
		}
	}
	for _, p := range []api.Pred{star, less(3), none, {}, not()} {
		if got := tree.Place(times(1<<20, p)); len(got) > 0 {
			t.Errorf("very many like %+v: %d", p, len(got))
		}
	}
}
