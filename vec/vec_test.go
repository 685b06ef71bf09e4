package vec_test

import (
	"math"
	"math/rand"
	"testing"

	"gallipot/api"
	"gallipot/vec"
)

// noReplicas are numbers that no replica has, some of which would pass for one if cut to fewer bits.
func noReplicas() []int {
	return []int{0, -1, -2, -7, -8, -9, 9, 10, 16, 17, 1000, -1000, 1<<8 + 1, 1<<16 + 8, 1<<32 + 1, -1<<32 + 8, math.MinInt32, math.MaxInt32, math.MinInt, math.MinInt + 1, math.MinInt + 8, math.MaxInt - 1, math.MaxInt}
}

// counts are counts at each edge, and far beyond.
func counts() []int {
	return []int{math.MinInt, math.MinInt + 1, -1 << 32, -1001, -1000, -2, -1, 0, 1, 2, 3, 7, 999, 1000, 1001, 1 << 31, 1<<32 + 1, math.MaxInt - 1, math.MaxInt}
}

// spread is a Vec of counts that are all different, so that none passes for another one.
func spread() api.Vec { return api.Vec{2, 5, 11, 23, 47, 95, 191, 383} }

// one is a Vec of one count at place i, and others elsewhere.
func one(i, n, others int) api.Vec {
	var v api.Vec
	for j := range v {
		v[j] = others
	}
	v[i] = n
	return v
}

// below is the greatest number below n, or n, if there is none.
func below(n int) int {
	if n == math.MinInt {
		return n
	}
	return n - 1
}

// above is the least number above n, or n, if there is none.
func above(n int) int {
	if n == math.MaxInt {
		return n
	}
	return n + 1
}

// random is a Vec of counts like those of counts, and of small ones.
func random(r *rand.Rand) api.Vec {
	var v api.Vec
	for i := range v {
		if v[i] = r.Intn(6); r.Intn(5) == 0 {
			v[i] = counts()[r.Intn(len(counts()))]
		}
	}
	return v
}

// versions are versions around all counts of v, of each replica, and of none.
func versions(v api.Vec) []api.Ver {
	var l []api.Ver
	for i, n := range v {
		for _, c := range append(counts(), below(n), n, above(n)) {
			l = append(l, api.Ver{R: i + 1, C: c})
		}
	}
	for _, r := range noReplicas() {
		for _, c := range counts() {
			l = append(l, api.Ver{R: r, C: c})
		}
	}
	return l
}

// checkHas asks whether v has a version of that replica and count.
func checkHas(t *testing.T, v api.Vec, r, c int, want bool) {
	t.Helper()
	if got := vec.Has(v, api.Ver{R: r, C: c}); got != want {
		t.Errorf("Has(%v, %d of replica %d) = %v, want %v", v, c, r, got, want)
	}
}

// checkWith asks what v is with a version of that replica and count.
func checkWith(t *testing.T, v api.Vec, r, c int, want api.Vec) {
	t.Helper()
	if got := vec.With(v, api.Ver{R: r, C: c}); got != want {
		t.Errorf("With(%v, %d of replica %d) = %v, want %v", v, c, r, got, want)
	}
}

// checkMax asks for the greater counts of both, whichever is named first.
func checkMax(t *testing.T, a, b, want api.Vec) {
	t.Helper()
	if got := vec.Max(a, b); got != want {
		t.Errorf("Max(%v, %v) = %v, want %v", a, b, got, want)
	}
	if got := vec.Max(b, a); got != want {
		t.Errorf("Max(%v, %v) = %v, want %v", b, a, got, want)
	}
}

// checkIn asks whether a is in b.
func checkIn(t *testing.T, a, b api.Vec, want bool) {
	t.Helper()
	if got := vec.In(a, b); got != want {
		t.Errorf("In(%v, %v) = %v, want %v", a, b, got, want)
	}
}

// checkMay asks whether v may be.
func checkMay(t *testing.T, v api.Vec, want bool) {
	t.Helper()
	if got := vec.May(v); got != want {
		t.Errorf("May(%v) = %v, want %v", v, got, want)
	}
}

func TestHasAtEachReplica(t *testing.T) { // P6.1
	for i, n := range spread() {
		checkHas(t, spread(), i+1, n-1, true)
		checkHas(t, spread(), i+1, n, true)
		checkHas(t, spread(), i+1, n+1, false)
		checkHas(t, spread(), i+1, 1, true)
		for _, c := range []int{0, -1, -2, -n, -1000, math.MinInt} {
			checkHas(t, spread(), i+1, c, false)
		}
		// Whatever the others' counts are, that of the version's own replica tells it.
		checkHas(t, one(i, 0, 1000), i+1, 1, false)
		checkHas(t, one(i, 1, 0), i+1, 1, true)
		checkHas(t, one(i, 1, 1000), i+1, 2, false)
		checkHas(t, one(i, 1000, 0), i+1, 1000, true)
		checkHas(t, one(i, 1000, 0), i+1, 1001, false)
	}
}

func TestHasNoVersion(t *testing.T) { // P6.1
	for _, n := range counts() {
		for i := range 8 {
			// A count of 0 and below is had by none, not even by greater or like ones.
			for _, c := range []int{0, -1, below(n), n} {
				checkHas(t, one(i, n, n), i+1, c, c >= 1)
			}
			checkHas(t, one(i, n, n), i+1, 1, n >= 1)
		}
	}
	for _, n := range []int{0, -1, math.MinInt} {
		checkHas(t, api.Vec{n, n, n, n, n, n, n, n}, 1, n, false)
	}
}

func TestHasNoReplica(t *testing.T) { // P6.1
	for _, r := range noReplicas() {
		for _, c := range counts() {
			checkHas(t, spread(), r, c, false)
			checkHas(t, one(0, math.MaxInt, math.MaxInt), r, c, false)
		}
	}
}

func TestWithAtEachReplica(t *testing.T) { // P6.1
	for i, n := range spread() {
		for _, c := range []int{n + 1, n + 2, 1000, 1001, math.MaxInt} {
			want := spread()
			want[i] = c
			checkWith(t, spread(), i+1, c, want)
		}
		for _, c := range []int{n, n - 1, 1, 0, -1, -n, -1000, math.MinInt} {
			checkWith(t, spread(), i+1, c, spread())
		}
		checkWith(t, api.Vec{}, i+1, 2, one(i, 2, 0))
		checkWith(t, api.Vec{}, i+1, 0, api.Vec{})
		checkWith(t, api.Vec{}, i+1, -1, api.Vec{})
		// The greater of two counts below 0 is one, too.
		checkWith(t, one(i, -5, -9), i+1, -3, one(i, -3, -9))
		checkWith(t, one(i, -5, -9), i+1, -7, one(i, -5, -9))
		checkWith(t, one(i, math.MinInt, 0), i+1, 0, api.Vec{})
	}
}

func TestWithNoReplica(t *testing.T) { // P6.1
	for _, r := range noReplicas() {
		for _, c := range counts() {
			checkWith(t, spread(), r, c, spread())
			checkWith(t, api.Vec{}, r, c, api.Vec{})
			checkWith(t, one(0, math.MinInt, math.MinInt), r, c, one(0, math.MinInt, math.MinInt))
		}
	}
}

func TestMaxAtEachPlace(t *testing.T) { // P6.1
	checkMax(t, api.Vec{}, api.Vec{}, api.Vec{})
	checkMax(t, spread(), spread(), spread())
	checkMax(t, spread(), api.Vec{}, spread())
	checkMax(t, api.Vec{1, 9, 2, 8, 3, 7, 4, 6}, api.Vec{5, 5, 5, 5, 5, 5, 5, 5}, api.Vec{5, 9, 5, 8, 5, 7, 5, 6})
	for i, n := range spread() {
		for _, c := range counts() {
			b, want := spread(), spread()
			b[i] = c
			if c > n {
				want[i] = c
			}
			checkMax(t, spread(), b, want)
		}
		checkMax(t, one(i, 7, 3), one(i, 3, 7), one(i, 7, 7))
		checkMax(t, one(i, -1, -9), one(i, -2, -8), one(i, -1, -8))
		checkMax(t, one(i, math.MinInt, 1), one(i, math.MaxInt, 2), one(i, math.MaxInt, 2))
	}
}

func TestInAtEachPlace(t *testing.T) { // P6.1
	checkIn(t, api.Vec{}, api.Vec{}, true)
	checkIn(t, api.Vec{}, spread(), true)
	checkIn(t, spread(), api.Vec{}, false)
	checkIn(t, spread(), spread(), true)
	for i, n := range spread() {
		for _, c := range counts() {
			v := spread()
			v[i] = c
			checkIn(t, v, spread(), c <= n)
			checkIn(t, spread(), v, n <= c)
		}
		// One count alone that is greater is enough, however small the others are.
		checkIn(t, one(i, 6, 0), one(i, 5, 1000), false)
		checkIn(t, one(i, 5, 0), one(i, 5, 1000), true)
		checkIn(t, one(i, 0, 5), one(i, 0, 4), false)
		checkIn(t, one(i, 0, -1), one(i, -1, 0), false)
		checkIn(t, one(i, math.MaxInt, 0), one(i, math.MinInt, 0), false)
		checkIn(t, one(i, math.MinInt, 0), one(i, math.MaxInt, 0), true)
	}
}

func TestMayAtEachPlace(t *testing.T) { // P6.1
	checkMay(t, api.Vec{}, true)
	checkMay(t, spread(), true)
	checkMay(t, one(0, 1000, 1000), true)
	checkMay(t, one(0, -1, -1), false)
	checkMay(t, one(0, 1001, 1001), false)
	for i := range 8 {
		for _, c := range counts() {
			for _, others := range []int{0, 1, 1000} {
				checkMay(t, one(i, c, others), c >= 0 && c <= 1000)
			}
			checkMay(t, one(i, 1, c), c >= 0 && c <= 1000)
		}
	}
}

func TestMaxHasWhatOneHas(t *testing.T) { // P6.2
	r := rand.New(rand.NewSource(1))
	for range 500 {
		a, b := random(r), random(r)
		both := vec.Max(a, b)
		for _, x := range append(versions(a), versions(b)...) {
			if got, want := vec.Has(both, x), vec.Has(a, x) || vec.Has(b, x); got != want {
				t.Fatalf("Max of %v and %v has %v: %v, want %v", a, b, x, got, want)
			}
		}
		checkIn(t, a, both, true)
		checkIn(t, b, both, true)
	}
}

// TestInHasNoMore asks that what is in has no more, and that what isn't has more, where no count of the other one is below 0: P6.2.
func TestInHasNoMore(t *testing.T) {
	r := rand.New(rand.NewSource(2))
	in := 0
	for range 4000 {
		a, b := random(r), random(r)
		if r.Intn(2) == 0 {
			b = vec.Max(b, a)
		}
		more := false
		for _, x := range versions(a) {
			more = more || vec.Has(a, x) && !vec.Has(b, x)
		}
		if vec.In(a, b) {
			in++
			if more {
				t.Fatalf("%v is in %v, and has more", a, b)
			}
		} else if vec.In(api.Vec{}, b) && !more {
			t.Fatalf("%v isn't in %v, and has no more", a, b)
		}
	}
	if in < 1000 || in > 3000 {
		t.Errorf("%d of 4000 were in", in)
	}
}

func TestWhatWasPutInIsHad(t *testing.T) { // P6.2
	r := rand.New(rand.NewSource(3))
	for range 300 {
		v := random(r)
		for _, x := range versions(v) {
			with := vec.With(v, x)
			if want := x.R >= 1 && x.R <= 8 && x.C >= 1; vec.Has(with, x) != want {
				t.Fatalf("%v with %v: it has that: %v", v, x, !want)
			}
			if !vec.In(v, with) || vec.With(with, x) != with {
				t.Fatalf("%v with %v is %v: less, or another one once more", v, x, with)
			}
			if vec.Has(v, x) && with != v {
				t.Fatalf("%v with %v, that it has, is %v", v, x, with)
			}
		}
	}
}

// TestAnyArguments asks that each call ends, panics at nothing, and answers what its sentence says, of any numbers: P1, P6.1, R4.
func TestAnyArguments(t *testing.T) {
	r := rand.New(rand.NewSource(4))
	for range 300 {
		a, b := random(r), random(r)
		greatest, in, may := a, true, true
		for i := range 8 {
			if b[i] > a[i] {
				greatest[i] = b[i]
			}
			in = in && !(a[i] > b[i])
			may = may && a[i] > -1 && a[i] < 1001
		}
		checkMax(t, a, b, greatest)
		checkIn(t, a, b, in)
		checkMay(t, a, may)
		for _, x := range versions(a) {
			with, has := a, false
			for i := range 8 {
				if x.R == i+1 && x.C > a[i] {
					with[i] = x.C
				} else if x.R == i+1 && x.C > 0 {
					has = true
				}
			}
			checkHas(t, a, x.R, x.C, has)
			checkWith(t, a, x.R, x.C, with)
		}
	}
}
