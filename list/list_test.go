package list_test

import (
	"maps"
	"math"
	"math/rand"
	"slices"
	"strings"
	"testing"

	"gallipot/api"
	"gallipot/list"
)

// of is an item of that Id and stamp; all else of it hangs on the stamp, so that no item passes for another one.
func of(id string, stamp int) api.Item {
	return api.Item{
		Id: id, Ver: api.Ver{R: 1 + (stamp+7)%8, C: 1 + stamp%1000}, Stamp: stamp, Kind: "kind",
		Num: stamp - 5, At: complex(float64(stamp%1000), -3), Dead: stamp%2 == 0,
	}
}

// row is a list of items of those Ids, each with that stamp.
func row(stamp int, ids ...string) []api.Item {
	var l []api.Item
	for _, id := range ids {
		l = append(l, of(id, stamp))
	}
	return l
}

// oddIds are texts that may not be Ids, rising.
func oddIds() []string {
	return []string{"", "\x00", "A", "Z", "`", "a\x00", "a b", "a1", "aB", "abcdefgh\x00", "abcdefghi", "{", "ä", "\xff"}
}

// rising are Ids that may be, rising byte by byte: not by their lengths.
func rising() []string {
	return []string{"a", "aa", "aaaaaaaa", "aaaaaaab", "ab", "abc", "az", "b", "ba", "jar", "jars", "jas", "z", "za", "zz", "zzzzzzzz"}
}

// oddItems are items that may not be, of one Id where that may be.
func oddItems(id string) map[string]api.Item {
	noNumber := math.NaN()
	odd := map[string]api.Item{"nothing but an Id": {Id: id}, "nothing at all": {}}
	change := func(name string, change func(x *api.Item)) {
		x := of(id, 5)
		change(&x)
		odd[name] = x
	}
	change("R 0", func(x *api.Item) { x.Ver.R = 0 })
	change("R 9", func(x *api.Item) { x.Ver.R = 9 })
	change("C 0", func(x *api.Item) { x.Ver.C = 0 })
	change("C 1001", func(x *api.Item) { x.Ver.C = 1001 })
	change("Stamp 0", func(x *api.Item) { x.Stamp = 0 })
	change("Stamp 1000001", func(x *api.Item) { x.Stamp = 1000001 })
	change("Kind", func(x *api.Item) { x.Kind = "Pot" })
	change("a long Kind", func(x *api.Item) { x.Kind = "abcdefghi" })
	change("Num -1000001", func(x *api.Item) { x.Num = -1000001 })
	change("Num 1000001", func(x *api.Item) { x.Num = 1000001 })
	change("At beyond", func(x *api.Item) { x.At = 1001i })
	change("At between", func(x *api.Item) { x.At = 0.5 })
	change("At no number", func(x *api.Item) { x.At = complex(noNumber, 0) })
	return odd
}

// alike tells whether both are one and the same item, bit by bit: no number is like itself here, and -0 isn't 0.
func alike(a, b api.Item) bool {
	bits := func(c complex128) [2]uint64 { return [2]uint64{math.Float64bits(real(c)), math.Float64bits(imag(c))} }
	at := bits(a.At) == bits(b.At)
	a.At, b.At = 0, 0
	return at && a == b
}

// written tells whether both are lists of the same items, where nil and empty are one.
func written(a, b []api.Item) bool { return slices.EqualFunc(a, b, alike) }

// climbs tells whether Ids rise.
func climbs(l []api.Item) bool {
	for i := 1; i < len(l); i++ {
		if l[i-1].Id >= l[i].Id {
			return false
		}
	}
	return true
}

// behind tells whether a comes behind b, sentence by sentence.
func behind(a, b api.Item) bool {
	if a.Stamp != b.Stamp {
		return a.Stamp > b.Stamp
	}
	if a.Ver.R != b.Ver.R {
		return a.Ver.R > b.Ver.R
	}
	return a.Ver.C > b.Ver.C
}

// sorted tells all items of m, by rising Ids.
func sorted(m map[string]api.Item) []api.Item {
	var l []api.Item
	for _, id := range slices.Sorted(maps.Keys(m)) {
		l = append(l, m[id])
	}
	return l
}

// byId tells the items of l by their Ids.
func byId(l []api.Item) map[string]api.Item {
	m := map[string]api.Item{}
	for _, x := range l {
		m[x.Id] = x
	}
	return m
}

// checkMay asks whether l may be.
func checkMay(t *testing.T, name string, l []api.Item, want bool) {
	t.Helper()
	if got := list.May(l); got != want {
		t.Errorf("%s: May(%v) = %v, want %v", name, l, got, want)
	}
}

// checkGet asks for that Id: want is the one item of it, or there is none.
func checkGet(t *testing.T, l []api.Item, id string, want ...api.Item) {
	t.Helper()
	got, ok := list.Get(l, id)
	if ok != (len(want) == 1) || !alike(got, append(want, api.Item{})[0]) {
		t.Errorf("Get(%v, %q) = %v, %v, want %v", l, id, got, ok, want)
	}
}

// checkPut asks what l is with x.
func checkPut(t *testing.T, l []api.Item, x api.Item, want []api.Item) {
	t.Helper()
	if got := list.Put(l, x); !written(got, want) {
		t.Errorf("Put(%v, %v) = %v, want %v", l, x, got, want)
	}
}

// checkDrop asks what l is without that Id.
func checkDrop(t *testing.T, l []api.Item, id string, want []api.Item) {
	t.Helper()
	if got := list.Drop(l, id); !written(got, want) {
		t.Errorf("Drop(%v, %q) = %v, want %v", l, id, got, want)
	}
}

// checkBoth asks what both are together, in that order.
func checkBoth(t *testing.T, a, b, want []api.Item) {
	t.Helper()
	if got := list.Both(a, b); !written(got, want) {
		t.Errorf("Both(%v, %v) = %v, want %v", a, b, got, want)
	}
}

func TestMayRising(t *testing.T) { // P8.1
	checkMay(t, "none", nil, true)
	checkMay(t, "empty", []api.Item{}, true)
	for _, id := range rising() {
		checkMay(t, "one", row(1, id), true)
	}
	checkMay(t, "the document's", row(1, "a", "b", "c"), true)
	for i := range rising() {
		for j := range rising() {
			// Any two of them: rising ones alone may be, not one twice, and not falling.
			checkMay(t, "two", row(1, rising()[i], rising()[j]), i < j)
			checkMay(t, "some", row(1, rising()[min(i, j):max(i, j)]...), true)
		}
	}
	// Nothing but Ids is asked to rise, and nothing tells how many there may be.
	checkMay(t, "stamps fall", []api.Item{of("a", 9), of("b", 4), of("c", 1)}, true)
	checkMay(t, "one version", row(7, "a", "b", "c"), true)
	checkMay(t, "dead ones", row(2, "a", "b"), true)
	var many []string
	for i := range 26 * 26 {
		many = append(many, string([]byte{byte('a' + i/26), byte('a' + i%26)}))
		checkMay(t, "many", row(3, many...), true)
	}
}

func TestMayNotRising(t *testing.T) { // P8.1
	for _, ids := range []string{
		"a a", "a b b", "a a b", "a b c c", "a a a", // twice
		"b a", "a c b", "b a c", "a b d c", "c b a", "a b c a", // falling
		"aa a", "b aa", "ab aaaaaaaa", "z ab", "jas jar", // falling byte by byte, not by lengths
		"a b a", "a b a b", "a c b c", "b c a", // twice or falling apart
	} {
		checkMay(t, "no rise", row(1, strings.Fields(ids)...), false)
	}
	// Other versions of one Id don't rise either.
	checkMay(t, "two versions", []api.Item{of("a", 1), of("a", 2)}, false)
	checkMay(t, "two versions", []api.Item{of("a", 2), of("a", 1)}, false)
}

func TestMayOddItems(t *testing.T) { // P8.1
	ids := []string{"b", "c", "d", "e", "f"}
	for i, id := range ids {
		for name, odd := range oddItems(id) {
			l := row(5, ids...)
			l[i] = odd
			checkMay(t, name, l, false)
		}
	}
	for name, odd := range oddItems("b") {
		checkMay(t, name+", alone", []api.Item{odd}, false)
	}
	// Ids that may not be, though they rise.
	for _, id := range oddIds() {
		for _, others := range [][]string{{}, {"c", "d"}, {"aa", "az"}, {"aa", "c", "z"}, {"zz", "zzz"}} {
			ids := append(slices.Clone(others), id)
			slices.Sort(ids)
			checkMay(t, "an odd Id", row(5, ids...), false)
		}
	}
}

func TestGet(t *testing.T) { // P8.1
	l := []api.Item{of("b", 7), of("d", 3), of("f", 9), of("h", 3), of("j", 1)}
	for i, id := range []string{"b", "d", "f", "h", "j"} {
		checkGet(t, l, id, l[i])
	}
	// Ahead of all, in between, behind all; beginnings of Ids and what begins with them; texts that may not be.
	for _, id := range append(oddIds(), "a", "aaaaaaaa", "bb", "c", "ba", "e", "g", "i", "ja", "k", "z", "zzzzzzzz", "B", "b\x00") {
		checkGet(t, l, id)
	}
	for _, id := range append(append(oddIds(), rising()...), "b") {
		checkGet(t, nil, id)
		checkGet(t, []api.Item{}, id)
		checkGet(t, row(1, "m"), id)
		checkGet(t, row(1, id), id, of(id, 1))
	}
	// All that an item has is got, odd things, too.
	for name, x := range oddItems("b") {
		if got, ok := list.Get([]api.Item{x}, x.Id); !ok || !alike(got, x) {
			t.Errorf("%s: Get told %v, %v", name, got, ok)
		}
	}
	minus0 := of("a", 1)
	minus0.At = complex(math.Copysign(0, -1), math.Copysign(0, -1))
	checkGet(t, []api.Item{minus0, of("b", 1)}, "a", minus0)
}

func TestPutOfOneThatIsThere(t *testing.T) { // P8.1
	l := []api.Item{of("b", 7), of("d", 7), of("f", 7)}
	for i, id := range []string{"b", "d", "f"} {
		// Ahead of the one that stands there, behind it, alike, and the same.
		for _, stamp := range []int{1, 6, 7, 8, 900000} {
			for _, ver := range []api.Ver{{R: 1, C: 1}, {R: 8, C: 1000}, l[i].Ver} {
				for _, dead := range []bool{false, true} {
					x := of(id, stamp)
					x.Ver, x.Dead = ver, dead
					want := slices.Clone(l)
					want[i] = x
					checkPut(t, l, x, want)
					checkPut(t, l[i:i+1], x, []api.Item{x})
				}
			}
		}
		// Of two alike the new one stands there, too.
		x := l[i]
		x.Num, x.Kind, x.At = 77, "pot", 9i
		want := slices.Clone(l)
		want[i] = x
		checkPut(t, l, x, want)
		checkPut(t, l, l[i], l)
		// And one that may not be.
		for _, x := range oddItems(id) {
			if x.Id == id {
				want[i] = x
				checkPut(t, l, x, want)
			}
		}
	}
}

func TestPutOfANewOne(t *testing.T) { // P8.1
	l := []api.Item{of("b", 7), of("d", 7), of("f", 7)}
	for _, c := range []struct {
		id string
		at int
	}{
		{"a", 0}, {"azzz", 0}, {"", 0}, {"A", 0}, // ahead of all
		{"ba", 1}, {"c", 1}, {"czzzzzzz", 1}, {"b\x00", 1}, {"da", 2}, {"e", 2}, // in between
		{"fa", 3}, {"g", 3}, {"z", 3}, {"\xff", 3}, // behind all
	} {
		for _, stamp := range []int{1, 7, 9} {
			x := of(c.id, stamp)
			want := append(append(slices.Clone(l[:c.at]), x), l[c.at:]...)
			checkPut(t, l, x, want)
			checkPut(t, nil, x, []api.Item{x})
			checkPut(t, []api.Item{}, x, []api.Item{x})
		}
	}
	// The document's example.
	checkPut(t, row(1, "a", "c"), of("b", 1), row(1, "a", "b", "c"))
}

func TestDrop(t *testing.T) { // P8.1
	l := []api.Item{of("b", 7), of("d", 3), of("f", 9), of("h", 3)}
	for i, x := range l {
		checkDrop(t, l, x.Id, slices.Concat(l[:i], l[i+1:]))
		checkDrop(t, []api.Item{x}, x.Id, nil)
	}
	for _, id := range append(oddIds(), "a", "ba", "c", "e", "g", "ha", "i", "zzzzzzzz", "B", "b\x00") {
		checkDrop(t, l, id, l)
		checkDrop(t, nil, id, nil)
		checkDrop(t, []api.Item{}, id, nil)
		checkDrop(t, row(1, id), id, nil)
		checkDrop(t, row(1, id), id+"a", row(1, id))
	}
	// A dead one is an item like others.
	dead := of("d", 4)
	checkDrop(t, []api.Item{of("a", 1), dead}, "d", row(1, "a"))
	checkDrop(t, []api.Item{of("a", 1), dead}, "a", []api.Item{dead})
}

func TestBothWithoutACommonId(t *testing.T) { // P8.1
	for _, c := range []struct{ a, b, all string }{
		{"a", "b", "a b"}, {"a b c", "d e f", "a b c d e f"}, {"a c e", "b d f", "a b c d e f"},
		{"b", "a c", "a b c"}, {"a z", "aa ab y", "a aa ab y z"}, {"c d", "a b e f", "a b c d e f"},
		{"", "a b", "a b"}, {"", "", ""}, {"", "z", "z"},
	} {
		a, b, all := row(3, strings.Fields(c.a)...), row(3, strings.Fields(c.b)...), row(3, strings.Fields(c.all)...)
		checkBoth(t, a, b, all)
		checkBoth(t, b, a, all)
		if a == nil {
			checkBoth(t, []api.Item{}, b, all)
			checkBoth(t, b, []api.Item{}, all)
		}
	}
	// Each keeps what it is, wherever it came from.
	checkBoth(t, []api.Item{of("a", 1), of("d", 2)}, []api.Item{of("b", 9), of("c", 8), of("e", 1)},
		[]api.Item{of("a", 1), of("b", 9), of("c", 8), of("d", 2), of("e", 1)})
}

func TestBothWithCommonIds(t *testing.T) { // P8.1
	for _, c := range []struct{ a, b, all []api.Item }{
		{row(1, "a"), row(2, "a"), row(2, "a")},
		{row(1, "a", "b"), row(2, "a"), []api.Item{of("a", 2), of("b", 1)}},
		{row(1, "a", "b"), row(2, "b"), []api.Item{of("a", 1), of("b", 2)}},
		{row(1, "a", "b", "c"), row(2, "b"), []api.Item{of("a", 1), of("b", 2), of("c", 1)}},
		{row(1, "b"), row(2, "a", "b", "c"), row(2, "a", "b", "c")},
		{row(1, "a", "b", "c"), row(2, "a", "b", "c"), row(2, "a", "b", "c")},
		{row(1, "a", "b", "d"), row(2, "b", "c", "d", "e"), []api.Item{of("a", 1), of("b", 2), of("c", 2), of("d", 2), of("e", 2)}},
		// Now that of the one, now that of the other.
		{[]api.Item{of("a", 2), of("b", 1), of("d", 3)}, []api.Item{of("a", 1), of("b", 5), of("c", 1)}, []api.Item{of("a", 2), of("b", 5), of("c", 1), of("d", 3)}},
		{[]api.Item{of("a", 9), of("c", 1), of("e", 9)}, []api.Item{of("a", 8), of("b", 7), of("c", 2), of("e", 1)}, []api.Item{of("a", 9), of("b", 7), of("c", 2), of("e", 9)}},
	} {
		checkBoth(t, c.a, c.b, c.all)
		checkBoth(t, c.b, c.a, c.all)
		checkBoth(t, c.a, c.a, c.a)
		checkBoth(t, c.all, c.b, c.all)
	}
}

// TestBothByWhatComesBehind asks of each of two versions of one Id: P8.1.
func TestBothByWhatComesBehind(t *testing.T) {
	at := func(stamp, r, c int) api.Item {
		x := of("m", stamp)
		x.Ver = api.Ver{R: r, C: c}
		return x
	}
	// Each comes behind all ahead of it: by stamps, then by replicas, then by counts.
	order := []api.Item{
		at(math.MinInt, 8, 9), at(-1, 1, 1), at(0, 1, 1), at(1, 1, 1), at(1, 1, 2), at(1, 1, 1000), at(1, 2, 1), at(1, 2, 2), at(1, 8, 1),
		at(2, 1, 1), at(2, 1, 7), at(2, 3, 1), at(9, 1, 1), at(10, 1, 1), at(1000000, 1, 1), at(1000000, 8, 1000), at(math.MaxInt, -1, -1),
	}
	for i := range order {
		for j := range order {
			want := order[max(i, j)]
			checkBoth(t, []api.Item{order[i]}, []api.Item{order[j]}, []api.Item{want})
			// The others of the lists stay.
			a, b := []api.Item{of("a", 1), order[i], of("y", 3)}, []api.Item{of("l", 2), order[j], of("z", 4)}
			checkBoth(t, a, b, []api.Item{of("a", 1), of("l", 2), want, of("y", 3), of("z", 4)})
		}
	}
	// Nothing else is asked: not Num, nor Kind, nor At, nor whether it is dead.
	low, high := at(1, 1, 1), at(2, 1, 1)
	low.Num, low.Kind, low.At, low.Dead = 1000, "zzz", 900+900i, true
	high.Num, high.Kind, high.At, high.Dead = -1000, "", -900i, false
	for range 2 {
		checkBoth(t, []api.Item{low}, []api.Item{high}, []api.Item{high})
		checkBoth(t, []api.Item{high}, []api.Item{low}, []api.Item{high})
		low.Dead, high.Dead = high.Dead, low.Dead
	}
}

func TestBothOfTwoAlike(t *testing.T) { // P8.1
	change := []func(x *api.Item){
		func(x *api.Item) { x.Num = 1000 },
		func(x *api.Item) { x.Num = -1000 },
		func(x *api.Item) { x.Kind = "" },
		func(x *api.Item) { x.Kind = "zzz" },
		func(x *api.Item) { x.At = 7 },
		func(x *api.Item) { x.At = -7i },
		func(x *api.Item) { x.At = complex(math.NaN(), 0) },
		func(x *api.Item) { x.Dead = !x.Dead },
		func(x *api.Item) { *x = api.Item{Id: x.Id, Ver: x.Ver, Stamp: x.Stamp} },
	}
	for _, c := range change {
		for _, id := range []string{"a", "m", "z"} {
			x, y := of(id, 5), of(id, 5)
			c(&y)
			checkBoth(t, []api.Item{x}, []api.Item{y}, []api.Item{x})
			checkBoth(t, []api.Item{y}, []api.Item{x}, []api.Item{y})
			// Among others, where the lists' other Ids differ.
			a, b := list.Put(row(2, "b", "n"), x), list.Put(row(3, "c", "k"), y)
			checkGet(t, list.Both(a, b), id, x)
			checkGet(t, list.Both(b, a), id, y)
		}
	}
}

// subset is a list of the Ids of which bits tells, with stamps that hang on the place and on salt.
func subset(ids []string, bits, salt int) []api.Item {
	var l []api.Item
	for i, id := range ids {
		if bits>>i&1 == 1 {
			l = append(l, of(id, 1+(i*7+salt*5)%11))
		}
	}
	return l
}

// TestAllSmallLists goes through all lists of some few Ids, against a map of them: P8.1, P8.3.
func TestAllSmallLists(t *testing.T) {
	ids := []string{"a", "aa", "ab", "b", "jar"}
	asked := append([]string{"", "A", "az", "ja", "jars", "z"}, ids...)
	for bits := range 1 << len(ids) {
		l := subset(ids, bits, 0)
		checkMay(t, "a small list", l, true)
		for _, id := range asked {
			if x, ok := byId(l)[id]; ok {
				checkGet(t, l, id, x)
			} else {
				checkGet(t, l, id)
			}
			m := byId(l)
			delete(m, id)
			checkDrop(t, l, id, sorted(m))
			for _, stamp := range []int{1, 5, 11} {
				m[id] = of(id, stamp)
				checkPut(t, l, of(id, stamp), sorted(m))
			}
		}
		for other := range 1 << len(ids) {
			for salt := range 3 {
				b := subset(ids, other, salt)
				m := byId(l)
				for _, y := range b {
					if x, ok := m[y.Id]; !ok || behind(y, x) {
						m[y.Id] = y
					}
				}
				checkBoth(t, l, b, sorted(m))
				if !list.May(list.Both(l, b)) {
					t.Errorf("Both of %v and %v may not be", l, b)
				}
			}
		}
	}
}

// TestEachPlace asks at each place of lists of many lengths, far beyond what a state has: P8.1, P8.3.
func TestEachPlace(t *testing.T) {
	name := func(i int) string { return string([]byte{byte('a' + i/26), byte('a' + i%26)}) }
	for n := range 70 {
		var even, odd, all []api.Item
		for i := range n {
			even, odd = append(even, of(name(2*i), i+1)), append(odd, of(name(2*i+1), i+1))
			all = append(all, even[i], odd[i])
		}
		for i := range n {
			checkGet(t, even, name(2*i), even[i])
			checkGet(t, even, name(2*i+1))
			checkDrop(t, all, name(2*i), slices.Concat(all[:2*i], all[2*i+1:]))
			checkPut(t, slices.Concat(all[:2*i+1], all[2*i+2:]), odd[i], all)
		}
		checkBoth(t, even, odd, all)
		checkBoth(t, odd, even, all)
		checkBoth(t, all, even, all)
		checkBoth(t, odd, all, all)
	}
}

// roomy is l in memory of its own, with room behind it that tells when it is written over.
func roomy(l []api.Item) []api.Item {
	return slices.Concat(l, row(77, "room", "room", "room", "room"))[:len(l)]
}

// untouched tells whether l, and the room behind it, is as roomy left it.
func untouched(l, was []api.Item) bool {
	return written(l, was) && written(l[len(l):len(l)+4], row(77, "room", "room", "room", "room"))
}

// scribble writes over all of l, and over the room behind it.
func scribble(l []api.Item) {
	for i := range l[:cap(l)] {
		l[:cap(l)][i] = of("over", 99)
	}
}

// random is a list of few Ids, so that they meet; one that needn't rise, with all that may not be, if odd.
func random(r *rand.Rand, odd bool) []api.Item {
	numbers := []int{math.MinInt, math.MinInt + 1, -1 << 32, -1, 0, 1, 2, 8, 9, 1000, 1001, 1000000, 1000001, 1 << 32, math.MaxInt - 1, math.MaxInt}
	number := func() int { return numbers[r.Intn(len(numbers))] }
	ids := []string{"a", "aa", "b", "c", "jar", "jars", "z"}
	var l []api.Item
	for range r.Intn(9) {
		x := of(ids[r.Intn(len(ids))], 1+r.Intn(4))
		x.Ver.R, x.Ver.C = 1+r.Intn(3), 1+r.Intn(3)
		if odd && r.Intn(3) == 0 {
			x.Id = oddIds()[r.Intn(len(oddIds()))]
		}
		if odd && r.Intn(3) == 0 {
			x.Stamp, x.Ver, x.Num = number(), api.Ver{R: number(), C: number()}, number()
			x.At = complex(math.NaN(), math.Inf(-1))
		}
		l = append(l, x)
	}
	if odd {
		return l
	}
	return sorted(byId(l))
}

// calls are the calls that tell a list, of both lists or of the first one alone, and those that tell none.
func calls(id string, x api.Item) map[string]func(a, b []api.Item) []api.Item {
	return map[string]func(a, b []api.Item) []api.Item{
		"Put":        func(a, b []api.Item) []api.Item { return list.Put(a, x) },
		"Put again":  func(a, b []api.Item) []api.Item { return list.Put(a, slices.Concat(a, []api.Item{x})[len(a)/2]) },
		"Drop":       func(a, b []api.Item) []api.Item { return list.Drop(a, id) },
		"Both":       list.Both,
		"Both alike": func(a, b []api.Item) []api.Item { return list.Both(a, a) },
		"Both, none": func(a, b []api.Item) []api.Item { return list.Both(a, nil) },
		"none, Both": func(a, b []api.Item) []api.Item { return list.Both([]api.Item{}, a) },
		"Get":        func(a, b []api.Item) []api.Item { list.Get(a, id); return nil },
		"May":        func(a, b []api.Item) []api.Item { list.May(a); return nil },
	}
}

// checkMemory asks that what was handed in stays, and what is told, when the other one is written over.
func checkMemory(t *testing.T, name string, wasA, wasB []api.Item, call func(a, b []api.Item) []api.Item) {
	t.Helper()
	a, b := roomy(wasA), roomy(wasB)
	got := call(a, b)
	if !untouched(a, wasA) || !untouched(b, wasB) {
		t.Fatalf("%s of %v and %v changed them: %v and %v", name, wasA, wasB, a, b)
	}
	was := slices.Clone(got)
	scribble(a)
	scribble(b)
	if !written(got, was) {
		t.Fatalf("%s of %v and %v told %v, and tells %v once they are written over", name, wasA, wasB, was, got)
	}
	// The other way round: what is told is written over, room behind it, too.
	a, b = roomy(wasA), roomy(wasB)
	got = call(a, b)
	scribble(got)
	if _ = append(got, of("over", 99)); !untouched(a, wasA) || !untouched(b, wasB) {
		t.Fatalf("%s of %v and %v told their memory", name, wasA, wasB)
	}
	// Nothing is kept: told once more, it is the same, whatever became of what was told first.
	if again := call(a, b); !written(again, was) {
		t.Fatalf("%s of %v and %v told %v, then %v", name, wasA, wasB, was, again)
	}
}

func TestNewMemory(t *testing.T) { // P8.2, R2
	for _, n := range []int{0, 1, 3} {
		l := row(5, "b", "d", "f")[:n]
		for _, id := range []string{"a", "b", "c", "d", "e", "f", "g"} {
			for name, call := range calls(id, of(id, 9)) {
				checkMemory(t, name+" "+id, l, row(7, "c", "d"), call)
				checkMemory(t, name+" "+id, l, row(7, "y", "z"), call)
				checkMemory(t, name+" "+id, l, nil, call)
			}
		}
	}
	r := rand.New(rand.NewSource(1))
	for i := range 1500 {
		id := append(rising(), oddIds()...)[r.Intn(len(rising())+len(oddIds()))]
		for name, call := range calls(id, of(id, 9)) {
			checkMemory(t, name, random(r, i%3 == 0), random(r, i%3 == 0), call)
		}
	}
}

// TestListsInOneMemory asks of lists that stand in one and the same memory, beside each other and overlapping: P8.1, P8.2.
func TestListsInOneMemory(t *testing.T) {
	all := row(3, "a", "b", "c", "d", "e")
	for i := range all {
		for j := range all {
			l := slices.Clone(all)
			checkBoth(t, l[:i], l[i:], all)
			checkBoth(t, l[i:], l[:i], all)
			checkBoth(t, l[min(i, j):], l[:max(i, j)], all)
			list.Put(l[:i], of("aaaa", 9))
			list.Put(l[:i], of("z", 9))
			list.Drop(l[:i], "a")
			list.Drop(l[:i], "z")
			if !written(l, all) {
				t.Fatalf("%v is %v now", all, l)
			}
		}
	}
}

// TestWhatFollows asks that what was put is got, what was dropped isn't, that other items stay, and that what rises, or may be, goes on to: P8.3.
func TestWhatFollows(t *testing.T) {
	r := rand.New(rand.NewSource(2))
	for range 3000 {
		l, b := random(r, false), random(r, false)
		id := rising()[r.Intn(len(rising()))]
		x := of(id, 1+r.Intn(9))
		put, drop, both := list.Put(l, x), list.Drop(l, id), list.Both(l, b)
		checkGet(t, put, id, x)
		checkGet(t, drop, id)
		for _, other := range append(rising(), "c", "", "A") {
			y, ok := list.Get(l, other)
			want := []api.Item{y}
			if !ok {
				want = nil
			}
			if other != id {
				checkGet(t, put, other, want...)
				checkGet(t, drop, other, want...)
			}
			_, there := list.Get(both, other)
			_, also := list.Get(b, other)
			if there != (ok || also) {
				t.Errorf("Both of %v and %v, %v: has %q: %v", l, b, both, other, there)
			}
		}
		for _, told := range [][]api.Item{put, drop, both, list.Both(b, l)} {
			checkMay(t, "told of lists that may be", told, true)
		}
		checkPut(t, put, x, put)
		checkDrop(t, drop, id, drop)
		checkDrop(t, put, id, drop)
		checkPut(t, drop, x, put)
		checkBoth(t, both, l, both)
		checkBoth(t, both, b, both)
	}
}

// TestRisesOn asks it of Ids that may not be, too, where nothing but the rise holds: P8.3.
func TestRisesOn(t *testing.T) {
	ids := append(rising(), oddIds()...)
	slices.Sort(ids)
	r := rand.New(rand.NewSource(3))
	for range 2000 {
		a, b := subset(ids, r.Intn(1<<len(ids)), 1), subset(ids, r.Intn(1<<len(ids)), 2)
		id := ids[r.Intn(len(ids))]
		for _, told := range [][]api.Item{list.Put(a, of(id, 3)), list.Drop(a, id), list.Both(a, b)} {
			if !climbs(told) {
				t.Fatalf("%v, %v and %q: %v doesn't rise", a, b, id, told)
			}
		}
		checkGet(t, list.Put(a, of(id, 3)), id, of(id, 3))
		checkGet(t, list.Drop(a, id), id)
	}
}

// TestPutInTurn builds lists from nothing, one Put behind the other, and takes them down again: P8.3.
func TestPutInTurn(t *testing.T) {
	r := rand.New(rand.NewSource(4))
	for range 40 {
		var l []api.Item
		m := map[string]api.Item{}
		for range 120 {
			id := rising()[r.Intn(len(rising()))]
			if x := of(id, 1+r.Intn(50)); r.Intn(3) > 0 {
				l, m[id] = list.Put(l, x), x
			} else {
				l = list.Drop(l, id)
				delete(m, id)
			}
			if !written(l, sorted(m)) {
				t.Fatalf("%v stands there, and should: %v", l, sorted(m))
			}
		}
		for _, id := range rising() {
			l = list.Drop(l, id)
		}
		if len(l) != 0 {
			t.Fatalf("%v is left", l)
		}
	}
}

// TestAnyArguments asks that each call ends and panics at nothing, of lists that don't rise, too: P1, R4; of those May tells what its sentence says: P8.1.
func TestAnyArguments(t *testing.T) {
	r := rand.New(rand.NewSource(5))
	ids := append(oddIds(), append(rising(), strings.Repeat("a", 1<<16))...)
	for range 4000 {
		a, b := random(r, true), random(r, r.Intn(2) == 0)
		id := ids[r.Intn(len(ids))]
		may := true
		for i, x := range a {
			_, odd := byId(row(1, oddIds()...))[x.Id]
			may = may && !odd && (i == 0 || a[i-1].Id < x.Id) && x.Stamp >= 1 && x.Stamp <= 1000000 && x.At == x.At
		}
		checkMay(t, "any list", a, may)
		x := of(id, 1+r.Intn(4))
		if len(a) > 0 {
			x = a[r.Intn(len(a))]
		}
		for _, l := range [][]api.Item{list.Put(a, x), list.Drop(a, id), list.Both(a, b), list.Both(b, a)} {
			list.May(l)
			list.Get(l, id)
			list.Put(l, api.Item{})
			list.Drop(l, x.Id)
		}
	}
	falling := row(1, rising()...)
	slices.Reverse(falling)
	for n := range 20 {
		same := row(n+1, slices.Repeat([]string{"m"}, n)...)
		for _, l := range [][]api.Item{falling, same, row(n+1, slices.Repeat([]string{""}, n)...), make([]api.Item, n)} {
			for _, id := range ids {
				list.May(l)
				list.Get(l, id)
				list.Put(l, of(id, 1))
				list.Drop(l, id)
				list.Both(l, row(1, id))
				list.Both(falling, l)
			}
		}
	}
}

// TestLongLists asks each call of a list of many items: P1, P8.3.
func TestLongLists(t *testing.T) {
	var l, b []api.Item
	for i := range 26 * 26 * 26 {
		id := string([]byte{byte('a' + i/676), byte('a' + i/26%26), byte('a' + i%26)})
		l, b = append(l, of(id, 1+i%3)), append(b, of(id, 1+i%2))
	}
	both := list.Both(l, b)
	if !list.May(l) || !list.May(b) || !list.May(both) || len(both) != len(l) || !written(list.Both(nil, l), l) || !written(list.Both(l, nil), l) {
		t.Error("Both of long lists")
	}
	for i := 0; i < len(l); i += 997 {
		checkGet(t, l, l[i].Id, l[i])
		checkGet(t, l, l[i].Id+"a")
		if got := list.Drop(l, l[i].Id); !written(got, slices.Concat(l[:i], l[i+1:])) {
			t.Errorf("Drop of %q of a long list", l[i].Id)
		}
		if got := list.Put(l, of(l[i].Id+"a", 1)); len(got) != len(l)+1 || !climbs(got) || !alike(got[i+1], of(l[i].Id+"a", 1)) {
			t.Errorf("Put behind %q into a long list", l[i].Id)
		}
	}
}
