package place_test

import (
	"math"
	"testing"

	"gallipot/api"
	"gallipot/place"
)

var (
	noNumber = math.NaN()
	infinite = math.Inf(1)
	minus0   = math.Copysign(0, -1)
)

// oddParts are parts that no place may have.
func oddParts() []float64 {
	return []float64{
		noNumber, math.Copysign(noNumber, -1), infinite, -infinite,
		0.5, -0.5, 3.25, -999.5, 999.9999999999999,
		math.Nextafter(0, 1), math.Nextafter(0, -1), math.Nextafter(1, 2), math.Nextafter(1, 0),
		math.Nextafter(api.MaxFar, infinite), math.Nextafter(-api.MaxFar, -infinite),
		1000.5, -1000.5, 1001, -1001, 1 << 31, -1 << 31, 1 << 32, 1 << 53, 1 << 63, -1 << 63, 1 << 64, 1e18, 1e19, -1e19,
		math.MaxFloat64, -math.MaxFloat64,
	}
}

// goodParts are parts that a place may have, the outermost ones and -0 among them.
func goodParts() []float64 {
	return []float64{0, minus0, 1, -1, 2, 7, -13, 255, 256, -512, 999, -999, 1000, -1000}
}

// goodPlaces are all places of goodParts.
func goodPlaces() []complex128 {
	var l []complex128
	for _, x := range goodParts() {
		for _, y := range goodParts() {
			l = append(l, complex(x, y))
		}
	}
	return l
}

// oddPlaces are what may not be: by one part, or by both.
func oddPlaces() []complex128 {
	var l []complex128
	for _, x := range oddParts() {
		for _, y := range goodParts() {
			l = append(l, complex(x, y), complex(y, x))
		}
		for _, y := range oddParts() {
			l = append(l, complex(x, y))
		}
	}
	return l
}

func TestMayEachWholePart(t *testing.T) { // P1.1
	for n := -api.MaxFar - 20; n <= api.MaxFar+20; n++ {
		want := n >= -1000 && n <= 1000
		x := float64(n)
		for _, c := range []complex128{complex(x, 0), complex(0, x), complex(x, x), complex(x, -x)} {
			if got := place.May(c); got != want {
				t.Errorf("May(%v) = %v, want %v", c, got, want)
			}
		}
		if place.May(complex(x+0.5, 0)) || place.May(complex(0, x+0.5)) {
			t.Errorf("a part of %v may be", x+0.5)
		}
	}
}

func TestMayGood(t *testing.T) { // P1.1
	for _, c := range goodPlaces() {
		if !place.May(c) {
			t.Errorf("May(%v) = false", c)
		}
	}
}

func TestMayOdd(t *testing.T) { // P1.1
	for _, c := range oddPlaces() {
		if place.May(c) {
			t.Errorf("May(%v) = true", c)
		}
	}
}

func TestFarKnown(t *testing.T) { // P1.1
	for _, c := range []struct {
		a, b complex128
		want int
	}{
		{0, 3 + 4i, 25},
		{3 + 4i, 0, 25},
		{0, 0, 0},
		{1 + 1i, 1 + 1i, 0},
		{2, 5, 9},
		{2i, 5i, 9},
		{-2, 5, 49},
		{-2i, 5i, 49},
		{2 + 3i, 3 + 2i, 2},
		{1 - 1i, -1 + 1i, 8},
		{1000, -1000, 4000000},
		{1000i, -1000i, 4000000},
		{-1000 - 1000i, 1000 + 1000i, 8000000},
		{1000 - 1000i, -1000 + 1000i, 8000000},
		{complex(minus0, minus0), 0, 0},
		{complex(minus0, 2), complex(0, -2), 16},
		{complex(minus0, minus0), 3 + 4i, 25},
	} {
		if got := place.Far(c.a, c.b); got != c.want {
			t.Errorf("Far(%v, %v) = %d, want %d", c.a, c.b, got, c.want)
		}
	}
}

func TestFarBySquares(t *testing.T) { // P1.1
	for _, a := range goodPlaces() {
		for _, b := range goodPlaces() {
			x := int(real(a)) - int(real(b))
			y := int(imag(a)) - int(imag(b))
			if got := place.Far(a, b); got != x*x+y*y {
				t.Fatalf("Far(%v, %v) = %d, want %d", a, b, got, x*x+y*y)
			}
		}
	}
}

func TestFarOdd(t *testing.T) { // P1.1
	for _, c := range oddPlaces() {
		for _, g := range []complex128{0, 3 + 4i, 1000 - 1000i, c} {
			if n := place.Far(c, g); n != -1 {
				t.Errorf("Far(%v, %v) = %d, want -1", c, g, n)
			}
			if n := place.Far(g, c); n != -1 {
				t.Errorf("Far(%v, %v) = %d, want -1", g, c, n)
			}
		}
	}
}

func TestNearEdge(t *testing.T) { // P1.1
	for _, a := range goodPlaces() {
		for _, b := range goodPlaces() {
			n := place.Far(a, b)
			if !place.Near(a, b, n) || !place.Near(a, b, n+1) || !place.Near(a, b, math.MaxInt) {
				t.Fatalf("%v and %v aren't near by %d, or more", a, b, n)
			}
			if place.Near(a, b, n-1) || place.Near(a, b, -1) || place.Near(a, b, math.MinInt) {
				t.Fatalf("%v and %v are near by less than %d", a, b, n)
			}
		}
	}
}

func TestNearKnown(t *testing.T) { // P1.1
	for _, c := range []struct {
		a, b complex128
		n    int
		want bool
	}{
		{0, 3 + 4i, 25, true},
		{0, 3 + 4i, 24, false},
		{0, 3 + 4i, 5, false},
		{0, 0, 0, true},
		{0, 0, -1, false},
		{complex(minus0, 0), 0, 0, true},
		{-1000 - 1000i, 1000 + 1000i, 8000000, true},
		{-1000 - 1000i, 1000 + 1000i, 7999999, false},
	} {
		if got := place.Near(c.a, c.b, c.n); got != c.want {
			t.Errorf("Near(%v, %v, %d) = %v, want %v", c.a, c.b, c.n, got, c.want)
		}
	}
}

func TestNearOdd(t *testing.T) { // P1.1
	for _, c := range oddPlaces() {
		for _, g := range []complex128{0, 3 + 4i, c} {
			for _, n := range []int{math.MinInt, -2, -1, 0, 1, 100, 8000000, math.MaxInt} {
				if place.Near(c, g, n) || place.Near(g, c, n) {
					t.Errorf("%v and %v are near by %d", c, g, n)
				}
			}
		}
	}
}

func TestFarBothWays(t *testing.T) { // P1.2
	l := append(goodPlaces(), 0.5, complex(noNumber, 0), complex(0, infinite), 1001)
	for _, a := range l {
		for _, b := range l {
			if n, m := place.Far(a, b), place.Far(b, a); n != m {
				t.Fatalf("Far of %v and %v: %d one way, %d the other way", a, b, n, m)
			}
		}
	}
}

func TestFarOfOnePlace(t *testing.T) { // P1.2
	for _, a := range goodPlaces() {
		for _, b := range goodPlaces() {
			if n := place.Far(a, b); (n == 0) != (a == b) {
				t.Fatalf("Far(%v, %v) = %d", a, b, n)
			}
		}
	}
}

func TestFarMovedAlike(t *testing.T) { // P1.2
	moves := []complex128{0, 1, -1, 1i, -1i, 7 - 9i, 493, -507i, 1000 + 1000i, -2000, 2000i}
	for _, a := range goodPlaces() {
		for _, b := range goodPlaces() {
			for _, m := range moves {
				want := place.Far(a, b)
				if !place.May(a+m) || !place.May(b+m) {
					want = -1
				}
				if n := place.Far(a+m, b+m); n != want {
					t.Fatalf("Far of %v and %v, both moved by %v, is %d, want %d", a, b, m, n, want)
				}
			}
		}
	}
}

// TestAnyArguments asks that each call ends, panics at nothing, and answers the same once more: P1, R2, R4.
func TestAnyArguments(t *testing.T) {
	parts := append(goodParts(), oddParts()...)
	near := []int{math.MinInt, -1, 0, 25, math.MaxInt}
	for _, x := range parts {
		for _, y := range parts {
			for _, z := range parts {
				a, b := complex(x, y), complex(y, z)
				if place.May(a) != place.May(a) || place.Far(a, b) != place.Far(a, b) {
					t.Fatalf("%v and %v aren't answered the same twice", a, b)
				}
				for _, n := range near {
					far := place.Far(a, b)
					if place.Near(a, b, n) != (far != -1 && far <= n) {
						t.Fatalf("Near(%v, %v, %d) isn't as Far, which is %d", a, b, n, far)
					}
				}
			}
		}
	}
}
