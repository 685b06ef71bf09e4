package clus_test

import (
	"math"
	"reflect"
	"slices"
	"strings"
	"testing"

	"gallipot/api"
	"gallipot/clus"
	"gallipot/local"
)

// far are numbers of no replica, or of any.
func far() []int {
	return []int{math.MinInt, math.MinInt + 1, -1 << 32, -101, -9, -8, -2, -1, 0, 9, 10, 100, 1 << 32, math.MaxInt - 1, math.MaxInt}
}

// checkNone asks that New refuses fs.
func checkNone(t *testing.T, fs []api.Pred) {
	t.Helper()
	if c, err := clus.New(fs); c != nil || err != api.ErrArg {
		t.Fatalf("New of %d filters: %v, %v, want %v", len(fs), c, err, api.ErrArg)
	}
}

func TestNewOfSoMany(t *testing.T) { // P21.1
	for _, n := range []int{0, 9, 10, 64, 100000} {
		checkNone(t, slices.Repeat([]api.Pred{star}, n))
	}
	checkNone(t, nil)
	for n := 1; n <= 8; n++ {
		for i, f := range filters() {
			fs := slices.Repeat([]api.Pred{f}, n)
			fs[n/2] = filters()[(i*5+n)%len(filters())]
			p := begin(t, fs...)
			if p.c.Reps() != n || len(p.c.Way()) != 0 {
				t.Fatalf("New of %d: %d replicas, and on the way is %v", n, p.c.Reps(), p.c.Way())
			}
			for who := 1; who <= n; who++ {
				if s := p.state(who); !alike(s, api.State{R: who, F: fs[who-1]}) {
					t.Fatalf("replica %d of %+v is %+v", who, fs[who-1], s)
				}
			}
		}
	}
}

func TestNewOfOdd(t *testing.T) { // P21.1
	for _, odd := range oddFilters() {
		for n := 1; n <= 8; n++ {
			for i := range n {
				fs := slices.Repeat([]api.Pred{star}, n)
				fs[i] = odd
				checkNone(t, fs)
				fs[0] = odd
				checkNone(t, fs)
			}
		}
	}
}

// TestNewSaves asks that a new replica's state is saved: with nothing saved behind it, it comes up as it was.
func TestNewSaves(t *testing.T) { // P21.1, P21.5
	for _, f := range filters() {
		p := begin(t, star, f)
		for who := 1; who <= 2; who++ {
			want := p.state(who)
			p.does(restart(who), 0, 0)
			p.does(fuse(who, 0), 0, 0)
			p.does(create(who, "a", 1), api.ErrDown, 0)
			p.isDown(who)
			p.does(restart(who), 0, 0)
			if s := p.state(who); !alike(s, want) {
				t.Fatalf("%+v came up as %+v", want, s)
			}
		}
	}
}

func TestState(t *testing.T) { // P21.1, R3
	for n := 1; n <= 8; n++ {
		p := begin(t, slices.Repeat([]api.Pred{less(5)}, n)...)
		for _, who := range append(far(), n+1) {
			if s, err := p.c.State(who); err != api.ErrArg || !reflect.ValueOf(s).IsZero() {
				t.Fatalf("State(%d) of %d replicas: %+v, %v", who, n, s, err)
			}
		}
		for who := 1; who <= n; who++ {
			p.does(create(who, name(who), who), 0, 0)
			want := p.state(who)
			if want.R != who || len(want.Store)+len(want.Out) != 1 || want.Count != 1 {
				t.Fatalf("replica %d is %+v", who, want)
			}
			p.does(fuse(who, 3), 0, 0)
			p.does(update(who, name(who), 3), api.ErrDown, 0)
			// The others are up.
			for x := 1; x <= n; x++ {
				if _, err := p.c.State(x); (err == api.ErrDown) != (x == who) {
					t.Fatalf("replica %d is down: State(%d) is %v", who, x, err)
				}
			}
			if p.c.Reps() != n {
				t.Fatalf("%d replicas, with one that is down", p.c.Reps())
			}
			p.does(restart(who), 0, 0)
			if s := p.state(who); !alike(s, want) {
				t.Fatalf("replica %d was %+v, and is %+v", who, want, s)
			}
		}
	}
}

func TestExample(t *testing.T) {
	p := begin(t, star, less(5))
	p.does(clus.Step{Kind: 1, Who: 2, Id: "a", Num: 9}, 0, 0)
	if s := p.state(2); len(s.Store) != 0 || len(s.Out) != 1 {
		t.Fatalf("replica 2 is %+v", s)
	}
	p.does(syncs(1, 2), 0, 0)
	want := []api.Item{{Id: "a", Ver: api.Ver{R: 2, C: 1}, Stamp: 1, Num: 9}}
	if s := p.state(1); !alike(s.Store, want) || len(s.Out) != 0 {
		t.Fatalf("replica 1 is %+v", s)
	}
	if s := p.state(2); len(s.Store) != 0 || len(s.Out) != 0 {
		t.Fatalf("replica 2 is %+v", s)
	}
}

// strange are kinds that aren't.
func strange() []int {
	return []int{math.MinInt, -13, -12, -1, 0, 13, 14, 24, 256, 257, 1<<32 + 1, math.MaxInt}
}

func TestNoSuchKind(t *testing.T) { // P21.2, R1, R3
	p := begin(t, star, less(5))
	check := func() {
		for _, kind := range strange() {
			p.does(clus.Step{Kind: kind, Who: 1, With: 2, Id: "a", F: star}, api.ErrArg, 0)
			p.does(clus.Step{Kind: kind, Who: 9, With: 9, N: -1}, api.ErrArg, 0)
		}
	}
	check()
	p.does(asks(1, 2), 0, 1)
	check()
	p.does(fuse(1, 0), 0, 0)
	p.does(create(1, "a", 1), api.ErrDown, 0)
	check()
}

// TestNoSuchReplica asks of each kind that is of Who, or of With, that there is one, ahead of all else.
func TestNoSuchReplica(t *testing.T) { // P21.2, R1
	for n := 1; n <= 8; n++ {
		p := begin(t, slices.Repeat([]api.Pred{star}, n)...)
		check := func() {
			for _, who := range append(far(), n+1) {
				for _, kind := range []int{1, 2, 3, 4, 5, 10, 11, 12} {
					p.does(clus.Step{Kind: kind, Who: who, With: 1, Id: "a", F: star}, api.ErrArg, 0)
					p.does(clus.Step{Kind: kind, Who: who, With: n + 1, N: -1}, api.ErrArg, 0)
				}
				for with := 1; with <= n; with++ {
					p.does(asks(with, who), api.ErrArg, 0)
					p.does(syncs(with, who), api.ErrArg, 0)
				}
			}
			for who := 1; who <= n; who++ {
				p.does(asks(who, who), api.ErrArg, 0)
				p.does(syncs(who, who), api.ErrArg, 0)
			}
		}
		check()
		// No replica, With that is Who, and With that isn't, come ahead of one that is down.
		for who := 1; who <= n; who++ {
			p.does(fuse(who, 0), 0, 0)
			p.does(create(who, name(who), 1), api.ErrDown, 0)
			p.isDown(who)
		}
		check()
		for who := 1; who <= n; who++ {
			for with := 1; with <= n; with++ {
				if who != with {
					p.does(asks(who, with), api.ErrDown, 0)
					p.does(syncs(who, with), api.ErrDown, 0)
				}
			}
		}
	}
}

// TestFieldsNotAsked asks that a step is of Who, With and At by its kind alone: others aren't asked.
func TestFieldsNotAsked(t *testing.T) { // P21.2
	for _, n := range far() {
		p := begin(t, star, less(5))
		junk := func(x clus.Step) clus.Step {
			x.Id, x.Text, x.Num, x.Place, x.F = "No", "No", n, complex(math.NaN(), 9), api.Pred{Op: 77}
			return x
		}
		p.does(clus.Step{Kind: 1, Who: 1, With: n, At: n, N: n, Id: "a"}, 0, 0)
		p.does(clus.Step{Kind: 2, Who: 1, With: n, At: n, N: n, Id: "a"}, 0, 0)
		p.does(clus.Step{Kind: 3, Who: 1, With: n, At: n, N: n, Id: "a", Text: "No", Num: n, Place: 0.5}, 0, 0)
		p.does(clus.Step{Kind: 4, Who: 2, With: n, At: n, N: n, Id: "No", Text: "No", Num: n, Place: 0.5, F: less(7)}, 0, 0)
		p.does(junk(clus.Step{Kind: 5, Who: 1, With: 2, At: n, N: n}), 0, 1)
		p.does(junk(clus.Step{Kind: 7, Who: n, With: n, N: n}), 0, 0)
		p.does(junk(clus.Step{Kind: 9, Who: n, With: n, At: 1}), 0, 0)
		p.does(junk(clus.Step{Kind: 8, Who: n, With: n, N: n, At: 1}), 0, 0)
		p.does(junk(clus.Step{Kind: 6, Who: n, With: n, N: n}), 0, 1)
		p.does(junk(clus.Step{Kind: 12, Who: 1, With: n, At: n, N: 5}), 0, 0)
		p.does(junk(clus.Step{Kind: 10, Who: 1, With: n, At: n, N: n}), 0, 0)
		p.does(junk(clus.Step{Kind: 11, Who: 1, With: 2, At: n, N: n}), 0, 0)
	}
}

func TestNothingOnTheWay(t *testing.T) { // P21.2, R1
	p := begin(t, star, less(5))
	check := func() {
		for kind := 6; kind <= 9; kind++ {
			for _, n := range append(far(), 1) {
				p.does(clus.Step{Kind: kind, Who: 1, With: 2, At: n, N: n}, api.ErrNone, 0)
				p.does(clus.Step{Kind: kind, Who: 99, With: 99, At: n, N: -n}, api.ErrNone, 0)
			}
		}
	}
	check()
	p.does(asks(1, 2), 0, 1)
	p.does(lose(0), 0, 0)
	check()
	p.does(syncs(1, 2), 0, 0)
	check()
	p.does(fuse(1, 0), 0, 0)
	p.does(create(1, "a", 1), api.ErrDown, 0)
	check()
}

// deeds are Creates, Updates, Deletes and Filters, of each of their errors, and of none.
func deeds() []clus.Step {
	return []clus.Step{
		create(1, "a", 4), create(1, "a", 4), create(1, "", 4), create(1, "A", 4), create(1, "abcdefghi", 4), create(1, "b", 1000001), {Kind: 1, Who: 1, Id: "b", Text: "Pot"}, {Kind: 1, Who: 1, Id: "b", Place: 1001}, {Kind: 1, Who: 1, Id: "b", Place: complex(math.NaN(), 0)}, {Kind: 1, Who: 1, Id: "b"}, create(1, "abcdefgh", 9),
		update(1, "a", 9), update(1, "a", 2), update(1, "c", 2), update(1, "", 2), update(1, "a", -1000001), {Kind: 2, Who: 1, Id: "a", Text: "abcdefgh", Num: -1000000, Place: -1000 + 1000i}, {Kind: 2, Who: 1, Id: "a", Text: "abcdefghi"}, {Kind: 2, Who: 1, Id: "a", Place: complex(math.Copysign(0, -1), 3)},
		erase(1, "b"), erase(1, "b"), erase(1, "c"), erase(1, "C"), erase(1, strings.Repeat("a", 1<<16)), update(1, "b", 1), create(1, "b", 7), create(1, "b", 7),
		filter(1, less(8)), filter(1, api.Pred{}), filter(1, not()), filter(1, texts(api.Kind, "pot")), filter(1, texts(api.Kind, "pot")), filter(1, star), filter(1, less(5)), filter(1, and(star)), filter(1, star), erase(1, "a"), create(1, "a", 0),
	}
}

// TestDeeds holds what a replica does by itself against layer 9, and asks that another one stays, and that nothing goes out.
func TestDeeds(t *testing.T) { // P21.2
	for _, f := range filters() {
		p := begin(t, f, less(5))
		s, other := p.state(1), p.state(2)
		codes := map[int]int{}
		for range 2 {
			for _, x := range deeds() {
				next, err := deed(s, x)
				r := p.do(x)
				if r.Code != num(err) || r.Out != 0 || len(p.c.Way()) > 0 {
					t.Fatalf("%+v: %+v, want %v", x, r, err)
				}
				if s = next; !alike(p.state(1), s) || !alike(p.state(2), other) {
					t.Fatalf("%+v: %+v, %+v;\nwant %+v, %+v", x, p.state(1), p.state(2), s, other)
				}
				codes[r.Code]++
			}
		}
		for _, code := range []api.Code{0, api.ErrArg, api.ErrNone, api.ErrInUse} {
			if codes[int(code)] < 3 {
				t.Fatalf("of %+v: %v", f, codes)
			}
		}
		// All of it was saved.
		if p.does(restart(1), 0, 0); !alike(p.state(1), s) {
			t.Fatalf("it came up as %+v, want %+v", p.state(1), s)
		}
	}
}

// TestDeedsWhole asks for some states, written out whole.
func TestDeedsWhole(t *testing.T) { // P21.2
	p := begin(t, star, less(5))
	p.does(create(2, "jar", 4), 0, 0)
	p.does(update(2, "jar", 5), 0, 0)
	jar := api.Item{Id: "jar", Ver: api.Ver{R: 2, C: 2}, Stamp: 2, Kind: "cup", Num: 5, At: -7i}
	want := api.State{R: 2, F: less(5), Out: []api.Item{jar}, K: api.Know{Star: api.Vec{0, 2}}, Count: 2, Clock: 2}
	if s := p.state(2); !alike(s, want) {
		t.Fatalf("%+v, want %+v", s, want)
	}
	p.does(erase(2, "jar"), 0, 0)
	p.does(filter(2, less(6)), 0, 0)
	jar.Ver.C, jar.Stamp, jar.Dead = 3, 3, true
	want = api.State{R: 2, F: less(6), Store: []api.Item{jar}, K: api.Know{L: []api.Frag{{Ids: []string{"jar"}, Vec: api.Vec{0, 3}}}}, Count: 3, Clock: 3, Epoch: 1}
	if s := p.state(2); !alike(s, want) {
		t.Fatalf("%+v, want %+v", s, want)
	}
	if s := p.state(1); !alike(s, api.State{R: 1, F: star}) {
		t.Fatalf("replica 1 is %+v", s)
	}
}

// TestNoRoom asks for ErrFull, and for ErrCount, at the first step at which there is no room, and no more version.
func TestNoRoom(t *testing.T) { // P21.2
	p := begin(t, less(20))
	for i := range 40 {
		p.does(create(1, name(i), i), 0, 0)
	}
	p.does(create(1, name(40), 1), api.ErrFull, 0)
	p.does(create(1, "", 1), api.ErrArg, 0)
	p.does(create(1, name(39), 1), api.ErrInUse, 0)
	p.does(erase(1, name(39)), 0, 0)
	p.does(create(1, name(40), 1), api.ErrFull, 0)
	for i := range 959 {
		if r := p.c.Do(update(1, name(i%39), i)); r != (clus.Res{}) {
			t.Fatalf("update %d: %+v", i, r)
		}
	}
	s := p.state(1)
	if s.Count != 1000 || len(s.Store)+len(s.Out) != 40 {
		t.Fatalf("%+v", s)
	}
	for _, x := range []clus.Step{update(1, "aa", 3), create(1, name(39), 3), erase(1, "aa")} {
		if r := p.c.Do(x); r != (clus.Res{Code: int(api.ErrCount)}) {
			t.Fatalf("%+v: %+v", x, r)
		}
	}
	if !alike(p.state(1), s) || !local.May(s) {
		t.Fatalf("%+v, want %+v", p.state(1), s)
	}
}
