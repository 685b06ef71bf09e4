package know_test

import (
	"math"
	"math/rand"
	"slices"
	"strconv"
	"testing"

	"gallipot/api"
	"gallipot/know"
)

// noReplicas are numbers that no replica has, some of which would pass for one if cut to fewer bits.
func noReplicas() []int {
	return []int{0, -1, -2, -8, 9, 10, 16, 1000, 1<<8 + 1, 1<<16 + 8, 1<<32 + 1, math.MinInt32, math.MaxInt32, math.MinInt, math.MinInt + 1, math.MaxInt - 1, math.MaxInt}
}

// counts are counts at each edge, and far beyond.
func counts() []int {
	return []int{math.MinInt, math.MinInt + 1, -1 << 32, -1000, -2, -1, 0, 1, 2, 3, 999, 1000, 1001, 1 << 32, math.MaxInt - 1, math.MaxInt}
}

// oddIds are texts that may not be Ids.
func oddIds() []string {
	return []string{"", "A", "Z", "`", "{", "a b", "aB", "a1", "a\x00", "ä", "\xff", "abcdefghi", "abcdefgh\x00"}
}

// ver is the version of that replica and count.
func ver(r, c int) api.Ver { return api.Ver{R: r, C: c} }

// frag is a piece of those counts and Ids.
func frag(v api.Vec, ids ...string) api.Frag { return api.Frag{Ids: ids, Vec: v} }

// of is what is known by those counts and pieces.
func of(star api.Vec, l ...api.Frag) api.Know { return api.Know{Star: star, L: l} }

// at is a Vec of one count, that of replica r, and others elsewhere.
func at(r, c, others int) api.Vec {
	var v api.Vec
	for i := range v {
		v[i] = others
	}
	v[r-1] = c
	return v
}

// copyOf is k in memory of its own.
func copyOf(k api.Know) api.Know {
	l := k.L
	k.L = nil
	for _, f := range l {
		k.L = append(k.L, frag(f.Vec, slices.Clone(f.Ids)...))
	}
	return k
}

// written tells whether both are written alike, where nil and empty are one.
func written(a, b api.Know) bool {
	if a.Star != b.Star || len(a.L) != len(b.L) {
		return false
	}
	for i, f := range a.L {
		if f.Vec != b.L[i].Vec || !slices.Equal(f.Ids, b.L[i].Ids) {
			return false
		}
	}
	return true
}

// plainly makes k plain sentence by sentence, as the chapter has them.
func plainly(k api.Know) api.Know {
	var ids []string
	for _, f := range k.L {
		ids = append(ids, f.Ids...)
	}
	slices.Sort(ids)
	p := api.Know{Star: k.Star}
	for _, id := range slices.Compact(ids) {
		var v api.Vec
		for r := range 8 {
			for _, f := range k.L {
				if n := f.Vec[r]; slices.Contains(f.Ids, id) && n > 0 && n > k.Star[r] && n > v[r] {
					v[r] = n
				}
			}
		}
		if v == (api.Vec{}) {
			continue
		}
		i := 0
		for i < len(p.L) && p.L[i].Vec != v {
			i++
		}
		if i == len(p.L) {
			p.L = append(p.L, frag(v))
		}
		p.L[i].Ids = append(p.L[i].Ids, id)
	}
	return p
}

// known tells whether a version is known, sentence by sentence.
func known(k api.Know, id string, x api.Ver) bool {
	if x.R < 1 || x.R > 8 || x.C < 1 {
		return false
	}
	for _, f := range k.L {
		for _, other := range f.Ids {
			if other == id && f.Vec[x.R-1] >= x.C {
				return true
			}
		}
	}
	return k.Star[x.R-1] >= x.C
}

// mayBe tells whether k may be, sentence by sentence.
func mayBe(k api.Know) bool {
	vec := func(v api.Vec) bool { return slices.Min(v[:]) >= 0 && slices.Max(v[:]) <= 1000 }
	if !vec(k.Star) || !written(k, plainly(k)) {
		return false
	}
	for _, f := range k.L {
		if !vec(f.Vec) || len(f.Ids) == 0 {
			return false
		}
		for i, id := range f.Ids {
			if id == "" || len(id) > 8 || i > 0 && f.Ids[i-1] >= id {
				return false
			}
			for j := range len(id) {
				if id[j] < 'a' || id[j] > 'z' {
					return false
				}
			}
		}
	}
	return true
}

// random is what may be written as known: of few Ids and small counts, so that all of them meet, and, if odd, of odd Ids and counts, too.
func random(r *rand.Rand, odd bool) api.Know {
	ids := []string{"a", "b", "ba", "c", "jar"}
	count := func() int {
		if odd && r.Intn(4) == 0 {
			return counts()[r.Intn(len(counts()))]
		}
		return max(0, r.Intn(8)-3)
	}
	vec := func() api.Vec {
		var v api.Vec
		for range 3 {
			v[[]int{0, 1, 7}[r.Intn(3)]] = count()
		}
		if odd && r.Intn(3) == 0 {
			v[r.Intn(8)] = count()
		}
		return v
	}
	k := api.Know{Star: vec()}
	for range r.Intn(6) {
		f := frag(vec())
		for range r.Intn(4) {
			id := ids[r.Intn(len(ids))]
			if odd && r.Intn(4) == 0 {
				id = oddIds()[r.Intn(len(oddIds()))]
			}
			f.Ids = append(f.Ids, id)
		}
		k.L = append(k.L, f)
	}
	return k
}

// idsOf are the Ids that k names, and some that it perhaps doesn't.
func idsOf(k api.Know) []string {
	l := []string{"a", "b", "zz", "", "\xff"}
	for _, f := range k.L {
		l = append(l, f.Ids...)
	}
	slices.Sort(l)
	return slices.Compact(l)
}

// versions are versions around all counts that stand in k, and of no replica.
func versions(k api.Know) []api.Ver {
	l := []api.Ver{ver(0, 1), ver(9, 1), ver(-1, 0), ver(math.MinInt, math.MinInt), ver(math.MaxInt, math.MaxInt)}
	vecs := []api.Vec{k.Star}
	for _, f := range k.L {
		vecs = append(vecs, f.Vec)
	}
	for i := range 8 {
		cs := []int{math.MinInt, -1, 0, 1, 2, math.MaxInt}
		for _, v := range vecs {
			// The sums wrap round at the ends, which are counts like others here.
			cs = append(cs, v[i]-1, v[i], v[i]+1)
		}
		slices.Sort(cs)
		for _, c := range slices.Compact(cs) {
			l = append(l, ver(i+1, c))
		}
	}
	return l
}

// checkHas asks whether a version is known.
func checkHas(t *testing.T, k api.Know, id string, x api.Ver, want bool) {
	t.Helper()
	if got := know.Has(k, id, x); got != want {
		t.Errorf("Has(%v, %q, %v) = %v, want %v", k, id, x, got, want)
	}
}

// checkPlain asks what k is made plain.
func checkPlain(t *testing.T, k, want api.Know) {
	t.Helper()
	if got := know.Plain(k); !written(got, want) {
		t.Errorf("Plain(%v) = %v, want %v", k, got, want)
	}
}

// checkWith asks what k is with a version.
func checkWith(t *testing.T, k api.Know, id string, x api.Ver, want api.Know) {
	t.Helper()
	if got := know.With(k, id, x); !written(got, want) {
		t.Errorf("With(%v, %q, %v) = %v, want %v", k, id, x, got, want)
	}
}

// checkOwn asks what k is with a version that its replica made.
func checkOwn(t *testing.T, k api.Know, id string, x api.Ver, want api.Know) {
	t.Helper()
	if got := know.Own(k, id, x); !written(got, want) {
		t.Errorf("Own(%v, %q, %v) = %v, want %v", k, id, x, got, want)
	}
}

// checkJoin asks what both are together, whichever is named first.
func checkJoin(t *testing.T, a, b, want api.Know) {
	t.Helper()
	if got := know.Join(a, b); !written(got, want) {
		t.Errorf("Join(%v, %v) = %v, want %v", a, b, got, want)
	}
	if got := know.Join(b, a); !written(got, want) {
		t.Errorf("Join(%v, %v) = %v, want %v", b, a, got, want)
	}
}

// checkSame asks whether both are the same, whichever is named first.
func checkSame(t *testing.T, a, b api.Know, want bool) {
	t.Helper()
	if got := know.Same(a, b); got != want {
		t.Errorf("Same(%v, %v) = %v, want %v", a, b, got, want)
	}
	if got := know.Same(b, a); got != want {
		t.Errorf("Same(%v, %v) = %v, want %v", b, a, got, want)
	}
}

// checkMay asks whether k may be.
func checkMay(t *testing.T, k api.Know, want bool) {
	t.Helper()
	if got := know.May(k); got != want {
		t.Errorf("May(%v) = %v, want %v", k, got, want)
	}
}

func TestHasByStar(t *testing.T) { // P7.1
	for r := 1; r <= 8; r++ {
		k := of(at(r, 3, 7))
		for c := 1; c <= 3; c++ {
			for _, id := range []string{"a", "zzzzzzzz", "", "A", "\xff"} {
				checkHas(t, k, id, ver(r, c), true)
			}
		}
		for _, c := range []int{4, 7, 1000, math.MaxInt, 0, -1, math.MinInt} {
			checkHas(t, k, "a", ver(r, c), false)
		}
		// Star has it, whatever lower counts a piece of that Id has.
		checkHas(t, of(at(r, 3, 0), frag(at(r, 1, 9), "a")), "a", ver(r, 3), true)
	}
	checkHas(t, api.Know{}, "a", ver(1, 1), false)
}

func TestHasByPieces(t *testing.T) { // P7.1
	for r := 1; r <= 8; r++ {
		k := of(at(r, 1, 9), frag(at(r, 3, 9), "c", "a"), frag(at(r, 5, 9), "b"))
		for id, most := range map[string]int{"a": 3, "c": 3, "b": 5, "d": 1, "": 1, "ab": 1, "aa": 1, "A": 1} {
			for c := -1; c < 8; c++ {
				checkHas(t, k, id, ver(r, c), c >= 1 && c <= most)
			}
		}
		// An Id in two pieces is asked of both, wherever they stand.
		two := []api.Frag{frag(at(r, 2, 0), "a", "b"), frag(at(r, 4, 0), "c", "a")}
		for range 2 {
			checkHas(t, of(api.Vec{}, two...), "a", ver(r, 4), true)
			checkHas(t, of(api.Vec{}, two...), "a", ver(r, 5), false)
			checkHas(t, of(api.Vec{}, two...), "b", ver(r, 2), true)
			checkHas(t, of(api.Vec{}, two...), "b", ver(r, 3), false)
			checkHas(t, of(api.Vec{}, two...), "c", ver(r, 3), true)
			slices.Reverse(two)
		}
	}
	// Ids that may not be are had by pieces that name them.
	for _, id := range oddIds() {
		checkHas(t, of(api.Vec{}, frag(api.Vec{1}, "b", id)), id, ver(1, 1), true)
		checkHas(t, of(api.Vec{}, frag(api.Vec{1}, "b")), id, ver(1, 1), false)
	}
	checkHas(t, of(api.Vec{}, frag(api.Vec{1})), "", ver(1, 1), false)
}

func TestHasNoVersion(t *testing.T) { // P7.1
	k := of(at(1, math.MaxInt, math.MaxInt), frag(at(1, math.MaxInt, math.MaxInt), "a"))
	for _, r := range noReplicas() {
		for _, c := range counts() {
			checkHas(t, k, "a", ver(r, c), false)
			checkHas(t, of(api.Vec{}, k.L...), "a", ver(r, c), false)
		}
	}
	for r := 1; r <= 8; r++ {
		for _, c := range counts() {
			checkHas(t, k, "a", ver(r, c), c >= 1)
			checkHas(t, of(api.Vec{}, k.L...), "a", ver(r, c), c >= 1)
			checkHas(t, of(api.Vec{}, k.L...), "b", ver(r, c), false)
		}
	}
}

func TestPlainOfNothing(t *testing.T) { // P7.1
	checkPlain(t, api.Know{}, api.Know{})
	checkPlain(t, of(api.Vec{}, frag(api.Vec{})), api.Know{})
	checkPlain(t, of(api.Vec{}, frag(api.Vec{1})), api.Know{})
	checkPlain(t, of(api.Vec{}, frag(api.Vec{1}), frag(api.Vec{2}, "a"), frag(api.Vec{3})), of(api.Vec{}, frag(api.Vec{2}, "a")))
	// Star stays as it is, whatever its counts are.
	for r := 1; r <= 8; r++ {
		for _, c := range counts() {
			checkPlain(t, of(at(r, c, 0)), of(at(r, c, 0)))
			checkPlain(t, of(at(r, 0, c)), of(at(r, 0, c)))
		}
	}
}

func TestPlainOfIdsInSeveralPieces(t *testing.T) { // P7.1
	// Each piece is the greatest one somewhere.
	l := []api.Frag{frag(api.Vec{5, 1, 2, 0, 0, 4, 1, 1}, "a"), frag(api.Vec{1, 5, 2, 0, 3, 0, 1, 2}, "b", "a"), frag(api.Vec{2, 1, 5, 3, 0, 0, 1, 3}, "a", "c")}
	b, c := frag(l[1].Vec, "b"), frag(l[2].Vec, "c")
	for range 3 {
		for range 2 {
			checkPlain(t, of(api.Vec{}, l...), of(api.Vec{}, frag(api.Vec{5, 5, 5, 3, 3, 4, 1, 3}, "a"), b, c))
			l[0], l[1] = l[1], l[0]
		}
		l = append(l[1:], l[0])
	}
	checkPlain(t, of(at(1, 4, 2), frag(at(1, 5, 1), "a"), frag(at(1, 4, 3), "a")), of(at(1, 4, 2), frag(at(1, 5, 3), "a")))
	// A count below 0 takes nothing from what another piece has.
	checkPlain(t, of(api.Vec{}, frag(api.Vec{-7, 2}, "a"), frag(api.Vec{1, -7}, "a")), of(api.Vec{}, frag(api.Vec{1, 2}, "a")))
}

func TestPlainOfCounts(t *testing.T) { // P7.1
	for r := 1; r <= 8; r++ {
		for _, star := range counts() {
			for _, c := range counts() {
				want := of(at(r, star, 2))
				if c > star && c > 0 {
					want.L = []api.Frag{frag(at(r, c, 0), "a")}
				}
				checkPlain(t, of(at(r, star, 2), frag(at(r, c, 2), "a")), want)
				checkPlain(t, of(at(r, star, 2), frag(at(r, c, 1), "a")), want)
				checkPlain(t, of(at(r, star, 2), frag(at(r, c, -1), "a")), want)
				// The other counts stay, if they are above Star's.
				if want.L = nil; c > star && c > 0 {
					want.L = []api.Frag{frag(at(r, c, 3), "a")}
				} else {
					want.L = []api.Frag{frag(at(r, 0, 3), "a")}
				}
				checkPlain(t, of(at(r, star, 2), frag(at(r, c, 3), "a")), want)
			}
		}
	}
}

func TestPlainOfWhatIsLeft(t *testing.T) { // P7.1
	star := api.Vec{2, 2, 2, 2, 2, 2, 2, 2}
	checkPlain(t, of(star, frag(star, "a", "b")), of(star))
	checkPlain(t, of(star, frag(star, "a"), frag(api.Vec{3}, "b"), frag(api.Vec{-1, 1}, "c")), of(star, frag(api.Vec{3}, "b")))
	checkPlain(t, of(api.Vec{}, frag(api.Vec{-1, 0, -3}, "a")), api.Know{})
	// Of a piece some Ids may be left, others not, as those have more by another piece.
	checkPlain(t, of(star, frag(api.Vec{1, 2}, "a", "b", "c"), frag(api.Vec{0, 3}, "b")), of(star, frag(api.Vec{0, 3}, "b")))
	// Negative counts of Star don't let counts of 0 and below stand.
	checkPlain(t, of(at(1, -5, -5), frag(at(1, -3, 0), "a")), of(at(1, -5, -5)))
	checkPlain(t, of(at(1, -5, -5), frag(at(1, -3, 1), "a")), of(at(1, -5, -5), frag(at(1, 0, 1), "a")))
}

func TestPlainOfPiecesThatBecomeAlike(t *testing.T) { // P7.1
	v := api.Vec{0, 3}
	checkPlain(t, of(api.Vec{}, frag(v, "c"), frag(v, "a"), frag(v, "b")), of(api.Vec{}, frag(v, "a", "b", "c")))
	// By Star.
	checkPlain(t, of(api.Vec{2}, frag(api.Vec{1, 3}, "c", "e"), frag(api.Vec{2, 3}, "a", "d"), frag(v, "b")), of(api.Vec{2}, frag(v, "a", "b", "c", "d", "e")))
	// By counts below 0.
	checkPlain(t, of(api.Vec{}, frag(api.Vec{-1, 3}, "b"), frag(api.Vec{0, 3, -9}, "a")), of(api.Vec{}, frag(v, "a", "b")))
	// By what other pieces add.
	checkPlain(t, of(api.Vec{}, frag(api.Vec{1}, "b"), frag(v, "b", "c"), frag(api.Vec{1, 3}, "a"), frag(api.Vec{1, 2}, "c")), of(api.Vec{}, frag(api.Vec{1, 3}, "a", "b", "c")))
	// One piece falls apart, as one of its Ids has more.
	checkPlain(t, of(api.Vec{}, frag(v, "a", "b", "c"), frag(api.Vec{0, 4}, "b")), of(api.Vec{}, frag(v, "a", "c"), frag(api.Vec{0, 4}, "b")))
	// Alike is of all eight counts.
	for r := 1; r <= 8; r++ {
		checkPlain(t, of(api.Vec{}, frag(at(r, 2, 1), "a", "c"), frag(at(r, 3, 1), "b")), of(api.Vec{}, frag(at(r, 2, 1), "a", "c"), frag(at(r, 3, 1), "b")))
	}
}

func TestPlainOfIdsThatStandTwice(t *testing.T) { // P7.1
	checkPlain(t, of(api.Vec{}, frag(api.Vec{1}, "a", "a")), of(api.Vec{}, frag(api.Vec{1}, "a")))
	checkPlain(t, of(api.Vec{}, frag(api.Vec{1}, "b", "a", "b", "a", "b")), of(api.Vec{}, frag(api.Vec{1}, "a", "b")))
	checkPlain(t, of(api.Vec{}, frag(api.Vec{1}, "a"), frag(api.Vec{1}, "a")), of(api.Vec{}, frag(api.Vec{1}, "a")))
	checkPlain(t, of(api.Vec{}, frag(api.Vec{1}, "b", "b"), frag(api.Vec{2}, "a", "b", "a")), of(api.Vec{}, frag(api.Vec{2}, "a", "b")))
}

func TestPlainOrder(t *testing.T) { // P7.1
	// Pieces stand by their first Ids: not by how they stood, by their counts, or by their last Ids.
	checkPlain(t, of(api.Vec{}, frag(api.Vec{1}, "d", "b"), frag(api.Vec{9}, "c"), frag(api.Vec{0, 5}, "e", "a")),
		of(api.Vec{}, frag(api.Vec{0, 5}, "a", "e"), frag(api.Vec{1}, "b", "d"), frag(api.Vec{9}, "c")))
	checkPlain(t, of(api.Vec{}, frag(api.Vec{9}, "c"), frag(api.Vec{1}, "b"), frag(api.Vec{5}, "a")), of(api.Vec{}, frag(api.Vec{5}, "a"), frag(api.Vec{1}, "b"), frag(api.Vec{9}, "c")))
	// Byte by byte: the shorter one of two first, and whatever bytes there are.
	rising := []string{"", "\x00", "A", "Z", "a", "a\x00", "aa", "ab", "abcdefghi", "b", "jar", "jars", "pot", "\x80", "\xc3\xa4", "\xef\xbf\xbd", "\xf0\x9f\x98\x80", "\xff", "\xff\x00"}
	r := rand.New(rand.NewSource(1))
	for range 50 {
		mixed := slices.Clone(rising)
		r.Shuffle(len(mixed), func(i, j int) { mixed[i], mixed[j] = mixed[j], mixed[i] })
		checkPlain(t, of(api.Vec{}, frag(api.Vec{1}, mixed...)), of(api.Vec{}, frag(api.Vec{1}, rising...)))
		var apart, want []api.Frag
		for i, id := range rising {
			want = append(want, frag(api.Vec{100 - i}, id))
		}
		for _, id := range mixed {
			apart = append(apart, frag(api.Vec{100 - slices.Index(rising, id)}, id))
		}
		checkPlain(t, of(api.Vec{}, apart...), of(api.Vec{}, want...))
	}
}

func TestPlainOfMany(t *testing.T) { // P7.1
	var k, want api.Know
	for i := range 20000 {
		// As texts of one length these rise like the numbers.
		id := strconv.Itoa(1000000 + i)
		k.L = append(k.L, frag(api.Vec{1 + i%3}, id), frag(api.Vec{0, 1}, id, strconv.Itoa(1000000+19999-i)))
		if i < 3 {
			want.L = append(want.L, frag(api.Vec{1 + i, 1}))
		}
		want.L[i%3].Ids = append(want.L[i%3].Ids, id)
	}
	if !written(know.Plain(k), want) {
		t.Error("20000 Ids in 40000 pieces aren't three pieces")
	}
}

func TestWithAnIdThatIsThere(t *testing.T) { // P7.1
	k := of(api.Vec{2}, frag(api.Vec{3, 3}, "a", "c"), frag(api.Vec{0, 4}, "b"))
	checkWith(t, k, "a", ver(2, 5), of(api.Vec{2}, frag(api.Vec{3, 5}, "a"), frag(api.Vec{0, 4}, "b"), frag(api.Vec{3, 3}, "c")))
	checkWith(t, k, "c", ver(8, 1), of(api.Vec{2}, frag(api.Vec{3, 3}, "a"), frag(api.Vec{0, 4}, "b"), frag(api.Vec{3, 3, 0, 0, 0, 0, 0, 1}, "c")))
	// It comes into another piece, or beside none of its own.
	checkWith(t, of(api.Vec{}, frag(api.Vec{1}, "a"), frag(api.Vec{2}, "b")), "a", ver(1, 2), of(api.Vec{}, frag(api.Vec{2}, "a", "b")))
	// What is known stays: that version, and those ahead of it.
	for _, x := range []api.Ver{ver(2, 3), ver(2, 2), ver(2, 1), ver(1, 3), ver(1, 1)} {
		checkWith(t, k, "a", x, k)
	}
	// An Id in two pieces.
	checkWith(t, of(api.Vec{}, frag(api.Vec{1}, "a"), frag(api.Vec{0, 1}, "a", "b")), "a", ver(3, 6), of(api.Vec{}, frag(api.Vec{1, 1, 6}, "a"), frag(api.Vec{0, 1}, "b")))
}

func TestWithAnIdThatIsNot(t *testing.T) { // P7.1
	for r := 1; r <= 8; r++ {
		for _, c := range counts() {
			want := api.Know{}
			if c > 0 {
				want = of(api.Vec{}, frag(at(r, c, 0), "a"))
			}
			checkWith(t, api.Know{}, "a", ver(r, c), want)
		}
		checkWith(t, of(api.Vec{}, frag(at(r, 3, 0), "b")), "a", ver(r, 3), of(api.Vec{}, frag(at(r, 3, 0), "a", "b")))
		checkWith(t, of(api.Vec{}, frag(at(r, 3, 0), "b")), "c", ver(r, 2), of(api.Vec{}, frag(at(r, 3, 0), "b"), frag(at(r, 2, 0), "c")))
	}
	for _, id := range oddIds() {
		checkWith(t, api.Know{}, id, ver(3, 2), of(api.Vec{}, frag(api.Vec{0, 0, 2}, id)))
	}
}

func TestWithWhatStarHas(t *testing.T) { // P7.1
	k := of(at(1, 4, 6), frag(at(1, 5, 0), "a"))
	for c := 1; c <= 4; c++ {
		checkWith(t, k, "a", ver(1, c), k)
		checkWith(t, k, "b", ver(1, c), k)
		checkWith(t, k, "b", ver(8, c+2), k)
	}
	checkWith(t, k, "b", ver(1, 5), of(k.Star, frag(at(1, 5, 0), "a", "b")))
	checkWith(t, k, "b", ver(8, 7), of(k.Star, frag(at(1, 5, 0), "a"), frag(at(8, 7, 0), "b")))
	// Star stays, also where it lacks but one, or is below 0.
	checkWith(t, of(api.Vec{-5, 1}), "b", ver(1, 1), of(api.Vec{-5, 1}, frag(api.Vec{1}, "b")))
	checkWith(t, of(api.Vec{-5, 1}), "b", ver(1, -4), of(api.Vec{-5, 1}))
	checkWith(t, of(api.Vec{-5, 1}), "b", ver(1, 0), of(api.Vec{-5, 1}))
}

func TestWithNoVersion(t *testing.T) { // P7.1
	k := of(api.Vec{2}, frag(api.Vec{1, 4}, "c", "a", "c"), frag(api.Vec{2, -2}, "b"), frag(api.Vec{0, 4}, "b"))
	for _, id := range []string{"a", "b", "d", ""} {
		for _, r := range noReplicas() {
			for _, c := range counts() {
				checkWith(t, k, id, ver(r, c), of(api.Vec{2}, frag(api.Vec{0, 4}, "a", "b", "c")))
			}
		}
		for r := 1; r <= 8; r++ {
			for _, c := range []int{0, -1, -2, -1000, math.MinInt} {
				checkWith(t, k, id, ver(r, c), of(api.Vec{2}, frag(api.Vec{0, 4}, "a", "b", "c")))
			}
		}
	}
}

func TestOwnInStar(t *testing.T) { // P7.1
	for r := 1; r <= 8; r++ {
		for _, c := range []int{1, 2, 7, 999, 1000, 1001, 1 << 32, math.MaxInt - 1, math.MaxInt} {
			for _, id := range []string{"a", "b", ""} {
				checkOwn(t, of(at(r, c-1, 0)), id, ver(r, c), of(at(r, c, 0)))
				checkOwn(t, of(at(r, c-1, 5)), id, ver(r, c), of(at(r, c, 5)))
				// What stands in L isn't above Star's any more.
				checkOwn(t, of(at(r, c-1, 5), frag(at(r, c, 0), "a", "c")), id, ver(r, c), of(at(r, c, 5)))
				checkOwn(t, of(at(r, c-1, 5), frag(at(r, c, 6), "c", "a")), id, ver(r, c), of(at(r, c, 5), frag(at(r, 0, 6), "a", "c")))
			}
		}
		// Counts further on stay, also of that Id: Star goes on by one.
		checkOwn(t, of(at(r, 2, 0), frag(at(r, 5, 0), "a")), "a", ver(r, 3), of(at(r, 3, 0), frag(at(r, 5, 0), "a")))
		checkOwn(t, of(at(r, 2, 0), frag(at(r, 5, 0), "b", "a"), frag(at(r, 3, 1), "c")), "c", ver(r, 3), of(at(r, 3, 0), frag(at(r, 5, 0), "a", "b"), frag(at(r, 0, 1), "c")))
	}
}

func TestOwnElsewhere(t *testing.T) { // P7.1
	for r := 1; r <= 8; r++ {
		for _, star := range []int{0, 1, 2, 3, 5, 6, 1000, math.MaxInt} {
			want := of(at(r, star, 3))
			if star < 4 {
				want.L = []api.Frag{frag(at(r, 4, 0), "a")}
			}
			if star == 3 {
				want = of(at(r, 4, 3))
			}
			checkOwn(t, of(at(r, star, 3)), "a", ver(r, 4), want)
		}
		// The other replicas' counts aren't asked.
		checkOwn(t, of(at(r, 1, 3)), "a", ver(r, 4), of(at(r, 1, 3), frag(at(r, 4, 0), "a")))
		checkOwn(t, of(at(r, 3, 1)), "a", ver(r, 4), of(at(r, 4, 1)))
		// Not where a piece has what is ahead of it.
		checkOwn(t, of(api.Vec{}, frag(at(r, 1, 0), "a")), "a", ver(r, 2), of(api.Vec{}, frag(at(r, 2, 0), "a")))
	}
}

func TestOwnNoVersion(t *testing.T) { // P7.1
	k := of(api.Vec{0, 4}, frag(api.Vec{3, 4}, "b", "a"))
	plain := of(api.Vec{0, 4}, frag(api.Vec{3}, "a", "b"))
	for _, r := range noReplicas() {
		for _, c := range counts() {
			checkOwn(t, k, "a", ver(r, c), plain)
		}
	}
	for r := 1; r <= 8; r++ {
		for _, c := range []int{0, -1, -2, -1000, math.MinInt + 1, math.MinInt} {
			checkOwn(t, k, "a", ver(r, c), plain)
			// Not even where Star's count is that less 1 (of the least one: the greatest).
			checkOwn(t, of(at(r, c-1, 2), frag(at(r, 0, 3), "a")), "a", ver(r, c), of(at(r, c-1, 2), frag(at(r, 0, 3), "a")))
		}
	}
}

func TestJoin(t *testing.T) { // P7.1
	checkJoin(t, api.Know{}, api.Know{}, api.Know{})
	checkJoin(t, of(api.Vec{1, 9, 2, 8, 3, 7, 4, 6}), of(api.Vec{5, 5, 5, 5, 5, 5, 5, 5}), of(api.Vec{5, 9, 5, 8, 5, 7, 5, 6}))
	checkJoin(t, of(api.Vec{-5, -3}), of(api.Vec{-4, -9}), of(api.Vec{-4, -3}))
	checkJoin(t, of(api.Vec{-5}), of(api.Vec{}), of(api.Vec{}))
	// Pieces of both, apart, of one Id, and alike.
	a := of(api.Vec{1}, frag(api.Vec{0, 3}, "a", "c"), frag(api.Vec{0, 0, 2}, "b"))
	checkJoin(t, a, api.Know{}, a)
	checkJoin(t, a, a, a)
	checkJoin(t, a, of(api.Vec{}, frag(api.Vec{0, 0, 2}, "d")), of(api.Vec{1}, frag(api.Vec{0, 3}, "a", "c"), frag(api.Vec{0, 0, 2}, "b", "d")))
	checkJoin(t, a, of(api.Vec{}, frag(api.Vec{0, 2, 1}, "c")), of(api.Vec{1}, frag(api.Vec{0, 3}, "a"), frag(api.Vec{0, 0, 2}, "b"), frag(api.Vec{0, 3, 1}, "c")))
	// Pieces that Star of the other one has, in all, and in part.
	checkJoin(t, a, of(api.Vec{0, 3}), of(api.Vec{1, 3}, frag(api.Vec{0, 0, 2}, "b")))
	checkJoin(t, a, of(api.Vec{0, 4, 5}), of(api.Vec{1, 4, 5}))
	checkJoin(t, a, of(api.Vec{0, 2}), of(api.Vec{1, 2}, frag(api.Vec{0, 3}, "a", "c"), frag(api.Vec{0, 0, 2}, "b")))
	checkJoin(t, of(api.Vec{}, frag(api.Vec{2, 3}, "a"), frag(api.Vec{0, 3}, "b")), of(api.Vec{2}), of(api.Vec{2}, frag(api.Vec{0, 3}, "a", "b")))
	for r := 1; r <= 8; r++ {
		checkJoin(t, of(at(r, 0, 1), frag(at(r, 3, 0), "a")), of(at(r, 3, 0), frag(at(r, 0, 1), "b")), of(at(r, 3, 1)))
		checkJoin(t, of(api.Vec{}, frag(at(r, 3, 2), "a")), of(api.Vec{}, frag(at(r, 2, 3), "a")), of(api.Vec{}, frag(at(1, 3, 3), "a")))
	}
	// What isn't plain is made so.
	checkJoin(t, of(api.Vec{2}, frag(api.Vec{1, 1}, "b", "b")), of(api.Vec{}, frag(api.Vec{-1, 1}, "a"), frag(api.Vec{2})), of(api.Vec{2}, frag(api.Vec{0, 1}, "a", "b")))
}

func TestSame(t *testing.T) { // P7.1
	k := of(api.Vec{2}, frag(api.Vec{0, 3}, "a", "c"), frag(api.Vec{3}, "b"))
	// Written otherwise, and the same made plain.
	for _, o := range []api.Know{
		k, know.Plain(k), copyOf(k),
		of(k.Star, frag(api.Vec{3}, "b"), frag(api.Vec{0, 3}, "a", "c")),
		of(k.Star, frag(api.Vec{0, 3}, "c", "a"), frag(api.Vec{3}, "b")),
		of(k.Star, frag(api.Vec{0, 3}, "a", "a", "c"), frag(api.Vec{3}, "b")),
		of(k.Star, frag(api.Vec{0, 3}, "c"), frag(api.Vec{3}, "b"), frag(api.Vec{0, 3}, "a")),
		of(k.Star, frag(api.Vec{2, 3}, "a", "c"), frag(api.Vec{3, -1}, "b")),
		of(k.Star, frag(api.Vec{0, 3}, "a", "c"), frag(api.Vec{3}, "b"), frag(api.Vec{2}, "d"), frag(api.Vec{9})),
		of(k.Star, frag(api.Vec{0, 3}, "a", "c"), frag(api.Vec{0, 2}, "a"), frag(api.Vec{3}, "b")),
	} {
		checkSame(t, k, o, true)
	}
	// Others, each by one thing alone.
	for _, o := range []api.Know{
		{}, of(k.Star), of(api.Vec{}, k.L...), of(api.Vec{1}, k.L...), of(api.Vec{2, 0, 1}, k.L...), of(k.Star, k.L[0]), of(k.Star, k.L[1]),
		of(k.Star, frag(api.Vec{0, 3}, "a"), frag(api.Vec{3}, "b")), of(k.Star, frag(api.Vec{0, 3}, "a", "d"), frag(api.Vec{3}, "b")),
		of(k.Star, frag(api.Vec{0, 3}, "a", "c", "d"), frag(api.Vec{3}, "b")), of(k.Star, frag(api.Vec{0, 3}, "a", "c"), frag(api.Vec{4}, "b")),
		of(k.Star, frag(api.Vec{0, 3}, "a", "c"), frag(api.Vec{3, 3}, "b")), of(k.Star, frag(api.Vec{3}, "a", "c"), frag(api.Vec{0, 3}, "b")),
		of(k.Star, append(slices.Clone(k.L), frag(api.Vec{3, 1}, "d"))...),
	} {
		checkSame(t, k, o, false)
	}
	checkSame(t, api.Know{}, api.Know{L: []api.Frag{}}, true)
	checkSame(t, api.Know{}, of(api.Vec{}, frag(api.Vec{}, "a"), frag(api.Vec{1})), true)
	// Star is held as it is written, though neither has a version.
	checkSame(t, api.Know{}, of(api.Vec{-1}), false)
	for r := 1; r <= 8; r++ {
		checkSame(t, of(at(r, 1, 2)), of(at(r, 2, 2)), false)
		checkSame(t, of(api.Vec{}, frag(at(r, 1, 2), "a")), of(api.Vec{}, frag(at(r, 2, 2), "a")), false)
		checkSame(t, of(at(r, 2, 0), frag(at(r, 1, 3), "a")), of(at(r, 2, 0), frag(at(r, 2, 3), "a")), true)
	}
}

func TestMay(t *testing.T) { // P7.1
	for _, k := range []api.Know{
		{}, {L: []api.Frag{}}, of(at(1, 1000, 1000)), of(at(1, 0, 1000)), of(at(1, 999, 999), frag(at(1, 1000, 1000), "a")),
		of(api.Vec{}, frag(api.Vec{1}, "a")), of(api.Vec{}, frag(api.Vec{1}, "a", "b", "zzzzzzzz")), of(api.Vec{}, frag(api.Vec{1}, "abcdefgh")),
		of(api.Vec{2}, frag(api.Vec{3}, "a", "c"), frag(api.Vec{0, 1}, "b")), of(api.Vec{}, frag(api.Vec{9}, "a"), frag(api.Vec{5}, "b"), frag(api.Vec{7}, "c")),
		of(api.Vec{}, frag(api.Vec{1}, "a", "d"), frag(api.Vec{2}, "b", "c")), of(api.Vec{}, frag(api.Vec{1}, "a", "aa", "ab")),
	} {
		checkMay(t, k, true)
	}
	for r := 1; r <= 8; r++ {
		for _, c := range counts() {
			checkMay(t, of(at(r, c, 0)), c >= 0 && c <= 1000)
			checkMay(t, of(at(r, c, 1000)), c >= 0 && c <= 1000)
			checkMay(t, of(at(r, 0, 2), frag(at(r, c, 3), "a")), c >= 0 && c <= 1000)
			checkMay(t, of(api.Vec{}, frag(at(r, c, 0), "a")), c >= 1 && c <= 1000)
			// In the last one of several pieces, too.
			checkMay(t, of(api.Vec{}, frag(at(r, 500, 0), "a"), frag(at(r, c, 0), "b")), c >= 1 && c <= 1000)
		}
		checkMay(t, of(api.Vec{}, frag(at(r, 1001, 1000), "a")), false)
	}
}

func TestMayOfWhatIsNotPlain(t *testing.T) { // P7.1
	for _, k := range []api.Know{
		// Counts that aren't above Star's, in all, and in part.
		of(api.Vec{2}, frag(api.Vec{2}, "a")), of(api.Vec{2}, frag(api.Vec{1}, "a")), of(api.Vec{2}, frag(api.Vec{2, 1}, "a")), of(api.Vec{2}, frag(api.Vec{1, 1}, "a")),
		of(api.Vec{}, frag(api.Vec{}, "a")), of(api.Vec{}, frag(api.Vec{1}, "a"), frag(api.Vec{}, "b")),
		// Pieces of one Vec, not in order, without Ids; one Id in two pieces.
		of(api.Vec{}, frag(api.Vec{1}, "a"), frag(api.Vec{1}, "b")), of(api.Vec{}, frag(api.Vec{1}, "a"), frag(api.Vec{2}, "b"), frag(api.Vec{1}, "c")),
		of(api.Vec{}, frag(api.Vec{1}, "b"), frag(api.Vec{2}, "a")), of(api.Vec{}, frag(api.Vec{1}, "a"), frag(api.Vec{2}, "c"), frag(api.Vec{3}, "b")),
		of(api.Vec{}, frag(api.Vec{1})), of(api.Vec{}, frag(api.Vec{})), of(api.Vec{}, frag(api.Vec{1}, "a"), frag(api.Vec{2})), of(api.Vec{}, frag(api.Vec{2}), frag(api.Vec{1}, "a")),
		of(api.Vec{}, api.Frag{Ids: []string{}, Vec: api.Vec{1}}),
		of(api.Vec{}, frag(api.Vec{1}, "a", "b"), frag(api.Vec{2}, "b")), of(api.Vec{}, frag(api.Vec{1}, "a"), frag(api.Vec{0, 1}, "a")), of(api.Vec{}, frag(api.Vec{2}, "a"), frag(api.Vec{1}, "a")),
		// Ids that fall, or stand twice.
		of(api.Vec{}, frag(api.Vec{1}, "b", "a")), of(api.Vec{}, frag(api.Vec{1}, "a", "c", "b")), of(api.Vec{}, frag(api.Vec{1}, "a", "a")), of(api.Vec{}, frag(api.Vec{1}, "a", "b", "b")),
		of(api.Vec{}, frag(api.Vec{1}, "ab", "a")), of(api.Vec{}, frag(api.Vec{1}, "a"), frag(api.Vec{2}, "c", "b")),
	} {
		checkMay(t, k, false)
		if p := know.Plain(k); !know.May(p) {
			t.Errorf("%v made plain, %v, may not be", k, p)
		}
	}
}

func TestMayOfOddIds(t *testing.T) { // P7.1
	for _, id := range oddIds() {
		checkMay(t, of(api.Vec{}, frag(api.Vec{1}, id)), false)
		// Wherever it rises, and with whatever beside it.
		checkMay(t, know.Plain(of(api.Vec{}, frag(api.Vec{1}, "a", "b", id))), false)
		checkMay(t, know.Plain(of(api.Vec{}, frag(api.Vec{1}, "a", "b"), frag(api.Vec{2}, id))), false)
		checkMay(t, know.Plain(of(api.Vec{}, frag(api.Vec{1}, "a", "b"), frag(api.Vec{2}, "c", id, "d"))), false)
	}
	for b := range 256 {
		id := string([]byte{byte(b)})
		checkMay(t, of(api.Vec{}, frag(api.Vec{1}, id)), b >= 'a' && b <= 'z')
	}
}

// roomy is k with room behind each of its lists, in which something stands.
func roomy(k api.Know) api.Know {
	room := make([]api.Frag, 0, len(k.L)+4)
	for _, f := range k.L {
		ids := append(append(make([]string, 0, len(f.Ids)+4), f.Ids...), "room", "room", "room", "room")
		room = append(room, frag(f.Vec, ids[:len(f.Ids)]...))
	}
	for i := len(room); i < cap(room); i++ {
		room[:cap(room)][i] = frag(api.Vec{77}, "room")
	}
	k.L = room
	return k
}

// untouched tells whether what is k's, and the room behind it, is as roomy left it.
func untouched(k, was api.Know) bool {
	for _, f := range k.L[len(k.L):cap(k.L)] {
		if f.Vec != (api.Vec{77}) || !slices.Equal(f.Ids, []string{"room"}) {
			return false
		}
	}
	for _, f := range k.L {
		for _, id := range f.Ids[len(f.Ids):cap(f.Ids)] {
			if id != "room" && id != "" {
				return false
			}
		}
	}
	return written(k, was)
}

// scribble writes over all of k, and over the room behind it.
func scribble(k api.Know) {
	for i := range k.L[:cap(k.L)] {
		ids := k.L[:cap(k.L)][i].Ids
		for j := range ids[:cap(ids)] {
			ids[:cap(ids)][j] = "over"
		}
		k.L[:cap(k.L)][i] = frag(api.Vec{99}, "over")
	}
}

// calls are the calls that tell what is known, of both and of k alone.
func calls() map[string]func(a, b api.Know) api.Know {
	return map[string]func(a, b api.Know) api.Know{
		"Plain":       func(a, b api.Know) api.Know { return know.Plain(a) },
		"With":        func(a, b api.Know) api.Know { return know.With(a, "b", ver(3, 9)) },
		"With known":  func(a, b api.Know) api.Know { return know.With(a, "a", ver(1, 1)) },
		"With none":   func(a, b api.Know) api.Know { return know.With(a, "a", ver(9, 1)) },
		"Own":         func(a, b api.Know) api.Know { return know.Own(a, "b", ver(1, a.Star[0]+1)) },
		"Own by With": func(a, b api.Know) api.Know { return know.Own(a, "b", ver(1, a.Star[0]+9)) },
		"Join":        know.Join,
		"Join itself": func(a, b api.Know) api.Know { return know.Join(a, a) },
		"Same":        func(a, b api.Know) api.Know { know.Same(a, b); return api.Know{} },
		"May":         func(a, b api.Know) api.Know { know.May(a); return api.Know{} },
		"Has":         func(a, b api.Know) api.Know { know.Has(a, "b", ver(2, 1)); return api.Know{} },
	}
}

// TestNewMemory asks that what was handed in stays, that the answer stays when that is written over, and that its lists share nothing: P7.2, R2.
func TestNewMemory(t *testing.T) {
	r := rand.New(rand.NewSource(5))
	for range 300 {
		wasA, wasB := random(r, false), random(r, false)
		if r.Intn(2) == 0 {
			wasA, wasB = know.Plain(wasA), know.Plain(wasB)
		}
		for name, call := range calls() {
			a, b := roomy(wasA), roomy(wasB)
			got := call(a, b)
			if !untouched(a, wasA) || !untouched(b, wasB) {
				t.Fatalf("%s of %v and %v changed them: %v and %v", name, wasA, wasB, a, b)
			}
			was := copyOf(got)
			scribble(a)
			scribble(b)
			if !written(got, was) {
				t.Fatalf("%s of %v and %v told %v, and tells %v once they are written over", name, wasA, wasB, was, got)
			}
			for i, f := range got.L {
				for range 8 {
					f.Ids = append(f.Ids, "over")
				}
				got.L[i].Vec = api.Vec{99}
				for j, g := range got.L {
					if !slices.Equal(g.Ids, was.L[j].Ids) || j > i && g.Vec != was.L[j].Vec {
						t.Fatalf("%s of %v and %v: lists of %v share memory", name, wasA, wasB, was)
					}
				}
			}
			// What is told can be written over, too, and what was handed in stays.
			a, b = roomy(wasA), roomy(wasB)
			scribble(call(a, b))
			if !untouched(a, wasA) || !untouched(b, wasB) {
				t.Fatalf("%s of %v and %v told their memory", name, wasA, wasB)
			}
		}
	}
}

func TestPlainKnowsTheSame(t *testing.T) { // P7.3
	r := rand.New(rand.NewSource(6))
	for i := range 400 {
		k := random(r, i%2 == 0)
		p := know.Plain(k)
		for _, id := range idsOf(k) {
			for _, x := range versions(k) {
				if know.Has(k, id, x) != know.Has(p, id, x) {
					t.Fatalf("%v, made plain %v: %v of %q isn't known by both", k, p, x, id)
				}
			}
		}
		checkPlain(t, p, p)
		checkSame(t, k, p, true)
	}
}

func TestJoinKnowsWhatOneKnows(t *testing.T) { // P7.3
	r := rand.New(rand.NewSource(7))
	for range 400 {
		a, b := know.Plain(random(r, false)), know.Plain(random(r, false))
		j := know.Join(a, b)
		if !know.May(a) || !know.May(b) || !know.May(j) {
			t.Fatalf("%v, %v, together %v: one may not be", a, b, j)
		}
		both := of(a.Star, append(append(slices.Clone(a.L), b.L...), frag(b.Star))...)
		for _, id := range idsOf(both) {
			for _, x := range versions(both) {
				if got, want := know.Has(j, id, x), know.Has(a, id, x) || know.Has(b, id, x); got != want {
					t.Fatalf("Join of %v and %v, %v: has %v of %q: %v", a, b, j, x, id, got)
				}
			}
		}
		checkJoin(t, a, b, j)
		checkJoin(t, a, j, j)
	}
}

// TestWithAndOwnKnow asks that With knows that version and those ahead of it, and no others beside what was known, and that Own knows what With does: P7.1, P7.3.
func TestWithAndOwnKnow(t *testing.T) {
	r := rand.New(rand.NewSource(8))
	star := 0
	for i := range 200 {
		k := random(r, i%2 == 0)
		ids, vers := idsOf(k), versions(k)
		for range 20 {
			id, x := ids[r.Intn(len(ids))], vers[r.Intn(len(vers))]
			if x.R >= 1 && x.R <= 8 && r.Intn(4) == 0 {
				x.C = k.Star[x.R-1] + 1
			}
			with, own := know.With(k, id, x), know.Own(k, id, x)
			if own.Star != k.Star {
				star++
			}
			for _, other := range ids {
				for _, y := range append(versions(k), x) {
					want := know.Has(k, other, y) || other == id && y.R == x.R && x.R >= 1 && x.R <= 8 && y.C >= 1 && y.C <= x.C
					if know.Has(with, other, y) != want {
						t.Fatalf("%v with %v of %q, %v: knows %v of %q: %v", k, x, id, with, y, other, !want)
					}
					if want && !know.Has(own, other, y) {
						t.Fatalf("%v with its own %v of %q, %v: doesn't know %v of %q", k, x, id, own, y, other)
					}
				}
			}
			checkPlain(t, with, with)
			checkPlain(t, own, own)
		}
	}
	if star < 200 {
		t.Errorf("Own went to Star %d times of 4000 alone", star)
	}
}

// TestAnyArguments asks that each call ends, panics at nothing, and answers what its sentences say, of anything: P1, P7.1, R4.
func TestAnyArguments(t *testing.T) {
	r := rand.New(rand.NewSource(9))
	may := 0
	for i := range 1500 {
		a, b := random(r, i%3 > 0), random(r, i%3 > 1)
		if i%2 == 0 {
			a = plainly(a)
		}
		if mayBe(a) {
			may++
		}
		checkMay(t, a, mayBe(a))
		checkPlain(t, a, plainly(a))
		both := of(a.Star, append(slices.Clone(a.L), b.L...)...)
		for j, n := range b.Star {
			both.Star[j] = max(n, both.Star[j])
		}
		checkJoin(t, a, b, plainly(both))
		checkSame(t, a, b, written(plainly(a), plainly(b)))
		ids, vers := idsOf(a), versions(a)
		for range 20 {
			id, x := ids[r.Intn(len(ids))], vers[r.Intn(len(vers))]
			checkHas(t, a, id, x, known(a, id, x))
			with := copyOf(a)
			if x.R >= 1 && x.R <= 8 && x.C >= 1 {
				with.L = append(with.L, frag(at(x.R, x.C, 0), id))
			}
			checkWith(t, a, id, x, plainly(with))
			if x.R >= 1 && x.R <= 8 && x.C >= 1 && a.Star[x.R-1]+1 == x.C {
				with.Star[x.R-1] = x.C
			}
			checkOwn(t, a, id, x, plainly(with))
		}
	}
	if may < 200 || may > 1300 {
		t.Errorf("%d of 1500 may be", may)
	}
}

// TestUtmost asks each call with the least and the greatest numbers in all places: P1.
func TestUtmost(t *testing.T) {
	ends := []int{math.MinInt, math.MinInt + 1, -1, 0, 1, math.MaxInt - 1, math.MaxInt}
	for _, star := range ends {
		for _, n := range ends {
			k := of(at(1, star, star), frag(at(8, n, n), "a", "", "a"), frag(at(1, 0, star)), frag(at(3, n, star), "\xff"))
			checkPlain(t, k, plainly(k))
			checkMay(t, k, false)
			checkSame(t, k, plainly(k), true)
			checkJoin(t, k, k, plainly(k))
			for _, r := range append(noReplicas(), 1, 2, 3, 4, 5, 6, 7, 8) {
				for _, c := range ends {
					checkHas(t, k, "a", ver(r, c), known(k, "a", ver(r, c)))
					if with := know.With(k, "a", ver(r, c)); with.Star != k.Star {
						t.Errorf("%v with %v of a: another Star", k, ver(r, c))
					}
					own := know.Own(k, "a", ver(r, c))
					if toStar := r >= 1 && r <= 8 && c >= 1 && star == c-1; toStar == (own.Star == k.Star) {
						t.Errorf("%v with its own %v of a: %v", k, ver(r, c), own)
					}
				}
			}
		}
	}
}
