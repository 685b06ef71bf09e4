package item_test

import (
	"math"
	"strings"
	"testing"

	"gallipot/api"
	"gallipot/item"
)

var (
	noNumber = math.NaN()
	infinite = math.Inf(1)
	minus0   = math.Copysign(0, -1)
)

// good is an item that may be, with nothing at an edge.
func good() api.Item {
	return api.Item{Id: "jar", Ver: api.Ver{R: 3, C: 7}, Stamp: 12, Kind: "pot", Num: -5, At: 3 - 4i}
}

// goodTexts are texts of 1 to MaxText bytes from a to z.
func goodTexts() []string {
	l := []string{"jar", "az", "za", "aaaaaaaa", "zzzzzzzz", "abcdefgh", "mmmmmmm"}
	for b := 'a'; b <= 'z'; b++ {
		l = append(l, string(b))
	}
	return l
}

// oddTexts are texts that neither an Id nor a Kind may be: too long, or with a byte that isn't from a to z.
func oddTexts() []string {
	l := []string{
		"abcdefghi", "aaaaaaaaa", strings.Repeat("a", 16), strings.Repeat("z", 256), strings.Repeat("a", 1<<16),
		"a b", "a-b", "jar.", "Jar", "jaR", "j0", "ABC", "é", "aé", "ä", "\u0430", "a\u0301", "\uff41", "🏺", "a🏺", "\xff\xfe", "a\xc3", "\u0161", "\u017f",
	}
	for b := range 256 {
		if b >= 'a' && b <= 'z' {
			continue
		}
		s := string([]byte{byte(b)})
		l = append(l, s, s+"a", "a"+s, "a"+s+"a", "aaaaaaa"+s, s+"aaaaaaa")
	}
	return l
}

// oddPlaces are places that may not be.
func oddPlaces() []complex128 {
	return []complex128{
		0.5, 0.5i, -3 + 0.25i, 1001, -1001, 1001i, -1001i, 1000 + 1001i, -1001 + 1000i,
		complex(noNumber, 0), complex(0, noNumber), complex(noNumber, noNumber),
		complex(infinite, 0), complex(0, -infinite), complex(infinite, noNumber),
		complex(math.Nextafter(1000, infinite), 0), complex(0, math.Nextafter(0, 1)), 1 << 32,
	}
}

// outside are numbers far beyond each limit, some of which would pass for small ones if cut to 32 bits.
func outside() []int {
	return []int{math.MinInt, math.MinInt + 1, -1 << 32, math.MinInt32, 1 << 31, 1<<32 + 1, math.MaxInt - 1, math.MaxInt}
}

func TestNameGood(t *testing.T) { // P2.1
	for _, s := range goodTexts() {
		if !item.Name(s) {
			t.Errorf("Name(%q) = false", s)
		}
	}
	for n := 0; n <= 20; n++ {
		if got := item.Name(strings.Repeat("q", n)); got != (n >= 1 && n <= 8) {
			t.Errorf("Name of %d bytes is %v", n, got)
		}
	}
}

func TestNameOdd(t *testing.T) { // P2.1
	for _, s := range append(oddTexts(), "") {
		if item.Name(s) {
			t.Errorf("Name(%q) = true", s)
		}
	}
}

func TestMayGood(t *testing.T) { // P2.1
	for _, x := range []api.Item{
		good(),
		{Id: "a", Ver: api.Ver{R: 1, C: 1}, Stamp: 1},
		{Id: "abcdefgh", Ver: api.Ver{R: 8, C: 1000}, Stamp: 1000000, Kind: "zzzzzzzz", Num: -1000000, At: -1000 + 1000i, Dead: true},
		{Id: "z", Ver: api.Ver{R: 8, C: 1}, Stamp: 1000000, Kind: "a", Num: 1000000, At: 1000 - 1000i},
		{Id: "z", Ver: api.Ver{R: 1, C: 1000}, Stamp: 1, Dead: true, At: complex(minus0, minus0)},
	} {
		if !item.May(x) {
			t.Errorf("May(%+v) = false", x)
		}
	}
}

func TestMayTexts(t *testing.T) { // P2.1
	for _, s := range goodTexts() {
		x, y := good(), good()
		x.Id, y.Kind = s, s
		if !item.May(x) || !item.May(y) {
			t.Errorf("an Id, or a Kind, %q may not be", s)
		}
	}
	for _, s := range oddTexts() {
		x, y := good(), good()
		x.Id, y.Kind = s, s
		if item.May(x) || item.May(y) {
			t.Errorf("an Id, or a Kind, %q may be", s)
		}
	}
	x, y := good(), good()
	x.Id, y.Kind = "", ""
	if item.May(x) {
		t.Error("an Id of no bytes may be")
	}
	if !item.May(y) {
		t.Error("a Kind of no bytes may not be")
	}
}

// TestMayNumbers goes through each number of an item, at its edges and far out: P2.1.
func TestMayNumbers(t *testing.T) {
	for _, c := range []struct {
		name        string
		least, most int
		put         func(x *api.Item, n int)
	}{
		{"R", 1, 8, func(x *api.Item, n int) { x.Ver.R = n }},
		{"C", 1, 1000, func(x *api.Item, n int) { x.Ver.C = n }},
		{"Stamp", 1, 1000000, func(x *api.Item, n int) { x.Stamp = n }},
		{"Num", -1000000, 1000000, func(x *api.Item, n int) { x.Num = n }},
	} {
		tried := append(outside(), -1, 0, 1, c.least-2, c.least-1, c.least, c.least+1, (c.least+c.most)/2, c.most-1, c.most, c.most+1, c.most+2, -c.most, -c.most-1)
		for _, n := range tried {
			x := good()
			c.put(&x, n)
			if got, want := item.May(x), n >= c.least && n <= c.most; got != want {
				t.Errorf("May with %s %d is %v, want %v", c.name, n, got, want)
			}
		}
	}
}

func TestMayPlaces(t *testing.T) { // P2.1
	for _, p := range []complex128{0, 1, -1i, 1000 + 1000i, -1000 - 1000i, complex(minus0, 2), complex(2, minus0)} {
		x := good()
		x.At = p
		if !item.May(x) {
			t.Errorf("an item at %v may not be", p)
		}
	}
	for _, p := range oddPlaces() {
		x := good()
		x.At = p
		if item.May(x) {
			t.Errorf("an item at %v may be", p)
		}
	}
}

func TestMayDead(t *testing.T) { // P2.1
	x := good()
	x.Dead = true
	if !item.May(x) {
		t.Error("a dead item may not be")
	}
	x.Id = ""
	if item.May(x) {
		t.Error("a dead item without an Id may be")
	}
}

func TestMayZero(t *testing.T) { // P2.1
	if item.May(api.Item{}) {
		t.Error("the zero item may be")
	}
}

// v is an item of that stamp and version.
func v(stamp, r, c int) api.Item {
	return api.Item{Stamp: stamp, Ver: api.Ver{R: r, C: c}}
}

func TestCompareKnown(t *testing.T) { // P2.1
	for _, c := range []struct {
		a, b api.Item
		want int
	}{
		{v(3, 1, 1), v(2, 1, 1), 1},
		{v(2, 1, 1), v(3, 1, 1), -1},
		{v(3, 1, 1), v(2, 8, 1000), 1},
		{v(2, 8, 1000), v(3, 1, 1), -1},
		{v(1000000, 1, 1), v(1, 1, 1), 1},
		{v(2, 2, 1), v(2, 1, 1), 1},
		{v(2, 2, 1), v(2, 1, 1000), 1},
		{v(2, 1, 1000), v(2, 2, 1), -1},
		{v(2, 8, 1), v(2, 1, 1), 1},
		{v(2, 2, 3), v(2, 2, 2), 1},
		{v(2, 2, 2), v(2, 2, 3), -1},
		{v(2, 2, 1000), v(2, 2, 1), 1},
		{v(2, 2, 2), v(2, 2, 2), 0},
		{api.Item{}, api.Item{}, 0},
	} {
		if got := item.Compare(c.a, c.b); got != c.want {
			t.Errorf("Compare(%+v, %+v) = %d, want %d", c.a, c.b, got, c.want)
		}
	}
}

// TestCompareFarOut asks for the order of numbers whose difference an int can't hold: P2.1, P2.2.
func TestCompareFarOut(t *testing.T) {
	l := []int{math.MinInt, math.MinInt + 1, -1 << 32, -1, 0, 1, 2, 1 << 32, math.MaxInt - 1, math.MaxInt}
	for i, n := range l {
		for j, m := range l {
			want := 0
			if i > j {
				want = 1
			} else if i < j {
				want = -1
			}
			for _, p := range [][2]api.Item{{v(n, 1, 1), v(m, 1, 1)}, {v(1, n, 1), v(1, m, 1)}, {v(1, 1, n), v(1, 1, m)}, {v(n, 5, 5), v(m, 5, 5)}} {
				if got := item.Compare(p[0], p[1]); got != want {
					t.Errorf("Compare(%+v, %+v) = %d, want %d", p[0], p[1], got, want)
				}
			}
		}
	}
}

// TestCompareAsksNothingElse gives items that differ by what the order doesn't ask: P2.1.
func TestCompareAsksNothingElse(t *testing.T) {
	for _, c := range changes() {
		a, b := good(), good()
		c.put(&b)
		want := 0
		if c.ordered {
			want = -1
		}
		if got := item.Compare(a, b); got != want {
			t.Errorf("Compare of two that differ by %s is %d, want %d", c.name, got, want)
		}
		if got := item.Compare(b, a); got != -want {
			t.Errorf("Compare of two that differ by %s, the other way, is %d, want %d", c.name, got, -want)
		}
	}
	a, b := v(2, 1, 1), v(1, 1, 1)
	a.Id, b.Id, b.Kind, b.Num, b.At, b.Dead = "a", "z", "z", 1000, 1000, true
	if item.Compare(a, b) != 1 || item.Compare(b, a) != -1 {
		t.Error("what isn't asked outweighs the stamp")
	}
}

// change makes an item another one; ordered: by what Compare asks, to one that comes behind.
type change struct {
	name    string
	ordered bool
	put     func(x *api.Item)
}

// changes are changes of good, each of one field alone, or of one part of it.
func changes() []change {
	return []change{
		{"a greater Id", false, func(x *api.Item) { x.Id = "jas" }},
		{"a lesser Id", false, func(x *api.Item) { x.Id = "ja" }},
		{"an Id of none", false, func(x *api.Item) { x.Id = "" }},
		{"R", true, func(x *api.Item) { x.Ver.R++ }},
		{"C", true, func(x *api.Item) { x.Ver.C++ }},
		{"Stamp", true, func(x *api.Item) { x.Stamp++ }},
		{"a greater Kind", false, func(x *api.Item) { x.Kind = "pots" }},
		{"a Kind of none", false, func(x *api.Item) { x.Kind = "" }},
		{"Num", false, func(x *api.Item) { x.Num = -x.Num }},
		{"the real part", false, func(x *api.Item) { x.At = 4 - 4i }},
		{"the imaginary part", false, func(x *api.Item) { x.At = 3 + 4i }},
		{"infinity", false, func(x *api.Item) { x.At = complex(infinite, -4) }},
		{"Dead", false, func(x *api.Item) { x.Dead = true }},
	}
}

// orderItems are items of many stamps and versions, also of such as may not be.
func orderItems() []api.Item {
	var l []api.Item
	parts := []int{math.MinInt, -1, 0, 1, 2, 8, math.MaxInt}
	for _, s := range parts {
		for _, r := range parts {
			for _, c := range parts {
				l = append(l, v(s, r, c))
			}
		}
	}
	return l
}

func TestCompareBothWays(t *testing.T) { // P2.2
	l := orderItems()
	for i, a := range l {
		for j, b := range l {
			n := item.Compare(a, b)
			if n != -1 && n != 0 && n != 1 {
				t.Fatalf("Compare(%+v, %+v) = %d", a, b, n)
			}
			if n != -item.Compare(b, a) {
				t.Fatalf("Compare of %+v and %+v isn't the other way round the other way", a, b)
			}
			if (n == 0) != (i == j) {
				t.Fatalf("Compare(%+v, %+v) = %d", a, b, n)
			}
		}
	}
}

func TestCompareGoesOn(t *testing.T) { // P2.2
	var l []api.Item
	for i, x := range orderItems() {
		if i%5 == 0 {
			l = append(l, x)
		}
	}
	for _, a := range l {
		for _, b := range l {
			for _, c := range l {
				if item.Compare(a, b) >= 0 && item.Compare(b, c) >= 0 && item.Compare(a, c) < 0 {
					t.Fatalf("the order doesn't go on from %+v over %+v to %+v", a, b, c)
				}
			}
		}
	}
}

func TestSameAlike(t *testing.T) { // P2.1
	a, b := good(), good()
	b.Id, b.Kind = strings.Clone(b.Id), strings.Clone(b.Kind)
	if !item.Same(a, b) || !item.Same(a, a) || !item.Same(api.Item{}, api.Item{}) {
		t.Error("items that are alike aren't the same")
	}
	for _, c := range changes() {
		a, b := good(), good()
		c.put(&a)
		c.put(&b)
		if !item.Same(a, b) {
			t.Errorf("two with the same change of %s aren't the same", c.name)
		}
	}
}

func TestSameEachField(t *testing.T) { // P2.1
	for _, c := range changes() {
		a, b := good(), good()
		c.put(&b)
		if item.Same(a, b) || item.Same(b, a) {
			t.Errorf("two that differ by %s are the same", c.name)
		}
	}
}

func TestSameMinusZero(t *testing.T) { // P2.1
	zeros := []complex128{0, complex(minus0, 0), complex(0, minus0), complex(minus0, minus0)}
	for _, p := range zeros {
		for _, q := range zeros {
			a, b := good(), good()
			a.At, b.At = p, q
			if !item.Same(a, b) {
				t.Errorf("items at %v and %v aren't the same", p, q)
			}
		}
	}
	a, b := good(), good()
	a.At, b.At = complex(minus0, 1), complex(0, 1)
	if !item.Same(a, b) {
		t.Error("items at -0+1i and 0+1i aren't the same")
	}
}

func TestSameNoNumber(t *testing.T) { // P2.1
	for _, p := range []complex128{complex(noNumber, 0), complex(0, noNumber), complex(noNumber, noNumber), complex(noNumber, infinite), complex(infinite, noNumber)} {
		a, b := good(), good()
		a.At = p
		if item.Same(a, a) || item.Same(a, b) || item.Same(b, a) {
			t.Errorf("an item at %v is the same as one", p)
		}
	}
}

// TestAnyArguments asks that each call ends, panics at nothing, and answers the same once more, with no argument changed: P1, R2, R4.
func TestAnyArguments(t *testing.T) {
	l := append(orderItems(), api.Item{}, good())
	for _, s := range append(append(oddTexts(), goodTexts()...), "") {
		x := good()
		x.Id, x.Kind = s, s
		l = append(l, x)
	}
	for _, p := range oddPlaces() {
		x := good()
		x.At = p
		l = append(l, x)
	}
	for i, a := range l {
		b := l[len(l)-1-i]
		if item.Name(a.Id) != item.Name(a.Id) || item.May(a) != item.May(a) {
			t.Fatalf("%+v isn't answered the same twice", a)
		}
		if item.Compare(a, b) != item.Compare(a, b) || item.Same(a, b) != item.Same(a, b) {
			t.Fatalf("%+v and %+v aren't answered the same twice", a, b)
		}
		if item.Same(a, b) != item.Same(b, a) {
			t.Fatalf("Same of %+v and %+v isn't the same both ways", a, b)
		}
		if item.May(a) && !item.Name(a.Id) {
			t.Fatalf("%+v may be, but not its Id", a)
		}
	}
}
