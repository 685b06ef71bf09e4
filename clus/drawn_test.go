package clus_test

import (
	"math"
	"math/rand"
	"slices"
	"strings"
	"testing"

	"gallipot/api"
	"gallipot/clus"
)

// pick is one of l.
func pick[T any](r *rand.Rand, l ...T) T { return l[r.Intn(len(l))] }

// spots are places near by, and not.
func spots() []complex128 { return []complex128{0, 3 - 4i, -1000i, complex(math.Copysign(0, -1), 0)} }

// drawn is a step drawn at random, of so many replicas, and of so many Ids.
func drawn(r *rand.Rand, reps, ids int) clus.Step {
	who := 1 + r.Intn(reps)
	with := 1 + r.Intn(reps)
	if with == who && r.Intn(8) > 0 {
		with = 1 + who%reps
	}
	x := clus.Step{Who: who, With: with, At: r.Intn(210) - 105, N: r.Intn(3000) - 1500, Id: name(r.Intn(ids)), Text: pick(r, "pot", "cup", ""), Num: r.Intn(12), Place: pick(r, spots()...), F: pick(r, filters()...)}
	if r.Intn(3) == 0 {
		x.At = pick(r, 0, -1)
	}
	switch n := r.Intn(100); {
	case n < 24:
		x.Kind = pick(r, 1, 1, 2, 2, 3)
	case n < 26:
		x.Kind = 4
	case n < 39:
		x.Kind = 5
	case n < 72:
		x.Kind = 6
	case n < 79:
		x.Kind = 7
	case n < 82:
		x.Kind = 8
	case n < 86:
		x.Kind = 9
	case n < 91:
		x.Kind = 10
	case n < 97:
		x.Kind = 11
	default:
		x.Kind, x.N = 12, r.Intn(400)-20
	}
	if r.Intn(60) == 0 {
		x.Who, x.With = r.Intn(reps+4)-1, r.Intn(reps+4)-1
	}
	if r.Intn(60) == 0 {
		x.Kind, x.F, x.Id = r.Intn(17)-2, pick(r, oddFilters()...), pick(r, "", "A", "abcdefghi", "abcdefgh")
	}
	return x
}

// row is a row of steps drawn at random, in a cluster drawn at random, of which each replica made so many items; it counts what they told, by their kinds.
func row(t *testing.T, r *rand.Rand, steps, items, onTheWay int, told map[[2]int]int) {
	t.Helper()
	reps := pick(r, 1, 2, 2, 2, 3, 3, 3, 4, 5, 8)
	if onTheWay > 0 {
		reps = max(2, reps)
	}
	fs := make([]api.Pred, reps)
	for i := range fs {
		fs[i] = pick(r, filters()...)
	}
	if r.Intn(4) > 0 {
		fs[r.Intn(reps)] = star
	}
	p := begin(t, fs...)
	if onTheWay > 0 {
		p.fills(onTheWay)
	}
	for i := range items {
		for who := range reps {
			p.does(create(1+who, name(who*items+i), r.Intn(12)), 0, 0)
		}
	}
	for range steps {
		x := drawn(r, reps, 6+items*reps)
		got := p.do(x)
		told[[2]int{x.Kind, got.Code}]++
		if x.Kind >= 5 && x.Kind <= 6 {
			told[[2]int{-x.Kind, got.Out}]++
		}
	}
}

// TestDrawn holds steps drawn at random against the chapter's sentences read a second time: each Res, each State, all that is on the way.
func TestDrawn(t *testing.T) { // P21.1 to P21.3, P21.5
	r := rand.New(rand.NewSource(21))
	told := map[[2]int]int{}
	for range 500 {
		row(t, r, 90, 0, 0, told)
	}
	for range 60 {
		row(t, r, 60, 3, 90+r.Intn(11), told)
	}
	for range 40 {
		row(t, r, 100, 10+r.Intn(31), 0, told)
	}
	for kind, codes := range map[int][]int{
		1: {0, 1, 3, 4, 8}, 2: {0, 1, 2, 8}, 3: {0, 1, 2, 8}, 4: {0, 1, 8}, 5: {0, 1, 8}, 6: {0, 1, 2, 7, 8, 9}, 7: {0, 2, 4}, 8: {0, 2}, 9: {0, 2, 3}, 10: {0, 1}, 11: {0, 1, 4, 8}, 12: {0, 1, 8},
		// How many an Ask, and what comes, put on the way.
		-5: {0, 1}, -6: {0, 1, 2, 3, 4},
	} {
		for _, code := range codes {
			if told[[2]int{kind, code}] < 5 {
				t.Errorf("of kind %d, %d was told %d times", kind, code, told[[2]int{kind, code}])
			}
		}
	}
}

// TestAnySteps does steps of any fields: P1.
func TestAnySteps(t *testing.T) {
	r := rand.New(rand.NewSource(1))
	texts := []string{"", "a", "b", "pot", "abcdefgh", "abcdefghi", "A", "\xff", "\x00", "ä", strings.Repeat("z", 1000)}
	numbers := append(far(), 1, 2, 3, 4, 5, 6, 7, 8, 11, 12, 13, 40, 255, 1000000, -1000000, 1000001)
	spots := []complex128{0, 1, -1000 + 1000i, 1001, 0.5, complex(math.NaN(), 0), complex(0, math.Inf(-1)), complex(math.Copysign(0, -1), math.Copysign(0, -1))}
	for range 150 {
		fs := make([]api.Pred, 1+r.Intn(8))
		for i := range fs {
			fs[i] = pick(r, filters()...)
		}
		p := begin(t, fs...)
		for range 120 {
			small := func() int {
				if r.Intn(4) == 0 {
					return pick(r, numbers...)
				}
				return r.Intn(13)
			}
			x := clus.Step{Kind: small(), Who: small() % 9, With: small() % 9, At: pick(r, numbers...), N: pick(r, numbers...), Id: pick(r, texts...), Text: pick(r, texts...), Num: pick(r, numbers...), Place: pick(r, spots...), F: pick(r, append(filters(), oddFilters()...)...)}
			p.do(x)
		}
	}
}

// TestHuge asks of filters far larger, or deeper, than may be, that the calls end: P1.
func TestHuge(t *testing.T) {
	// It has far more parts than can be gone through, as its Kids share memory.
	bush, long := star, star
	for range 60 {
		bush = and(bush, bush)
	}
	for range 1 << 20 {
		long = not(long)
	}
	p := begin(t, star, less(5))
	for _, f := range []api.Pred{bush, long, not(bush), or(slices.Repeat([]api.Pred{star}, 1<<20)...)} {
		checkNone(t, []api.Pred{f})
		checkNone(t, []api.Pred{star, f, star})
		checkNone(t, slices.Repeat([]api.Pred{f}, 9))
		for kind := -1; kind < 15; kind++ {
			for who := range 4 {
				p.do(clus.Step{Kind: kind, Who: who, With: 3 - who, F: f, Id: "a", N: 1000})
			}
		}
		p.does(filter(2, f), api.ErrArg, 0)
	}
}

// TestVeryMany asks that a cluster on which very many steps are done has what it is to have, and no more on the way than there is room for: P1.
func TestVeryMany(t *testing.T) {
	p := begin(t, star, less(5), texts(api.Kind, "pot"))
	for i := range 3000 {
		kinds := []int{1, 2, 5, 6, 6, 6, 11, 3}
		p.do(clus.Step{Kind: kinds[i*7%8], Who: 1 + i%3, With: 1 + (i+1+i/7%2)%3, At: i, Id: name(i % 9), Text: "pot", Num: i % 11})
	}
}

// TestBeyondNumbers asks that the calls end once all numbers up to MaxNum were used up, and some more: P1. What comes then isn't said.
func TestBeyondNumbers(t *testing.T) {
	c, err := clus.New([]api.Pred{none, star})
	if err != nil {
		t.Fatal(err)
	}
	for range 999990 {
		c.Do(asks(1, 2))
	}
	for i := range 400 {
		c.Do(clus.Step{Kind: 1 + i%12, Who: 1 + i%2, With: 2 - i%2, At: i, N: 9000, Id: name(i), F: less(i)})
		if c.Do(syncs(1, 2)); len(c.Way()) > 100 {
			t.Fatalf("%d are on the way", len(c.Way()))
		}
	}
	if _, err := c.State(2); err != nil {
		t.Fatal(err)
	}
}
