package jour_test

import (
	"bytes"
	"encoding/binary"
	"hash/crc32"
	"math"
	"math/rand"
	"reflect"
	"slices"
	"strings"
	"testing"

	"gallipot/api"
	"gallipot/code"
	"gallipot/disk"
	"gallipot/enc"
	"gallipot/jour"
	"gallipot/know"
	"gallipot/list"
	"gallipot/local"
	"gallipot/recv"
)

var (
	star = api.Pred{Op: api.Star}
	none = api.Pred{Op: api.None}
)

func and(kids ...api.Pred) api.Pred { return api.Pred{Op: api.And, Kids: kids} }
func or(kids ...api.Pred) api.Pred  { return api.Pred{Op: api.Or, Kids: kids} }
func not(kids ...api.Pred) api.Pred { return api.Pred{Op: api.Not, Kids: kids} }
func less(n int) api.Pred           { return api.Pred{Op: api.Less, N: n} }
func more(n int) api.Pred           { return api.Pred{Op: api.More, N: n} }
func kind(s string) api.Pred        { return api.Pred{Op: api.Kind, Text: s} }
func prefix(s string) api.Pred      { return api.Pred{Op: api.Prefix, Text: s} }

func near(at complex128, n int) api.Pred { return api.Pred{Op: api.Near, At: at, N: n} }

// filters may be: each Op, at its edges, and as large and as deep as may be.
func filters() []api.Pred {
	return []api.Pred{
		star, none, kind(""), kind("abcdefgh"), prefix(""), prefix("zzzzzzzz"), less(5), less(-1000000), more(5), more(1000000), near(0, 0), near(3-4i, 25), near(-1000-1000i, 8000000),
		and(), or(), and(star, less(7)), or(none, less(5), kind("pot")), not(less(5)), not(not(not(not(not(star))))), or(slices.Repeat([]api.Pred{star}, 29)...), and(or(kind("pot"), star), not(and(none, near(-1, 64)))),
	}
}

// made is the item of that Id and number, in the version of that replica and count.
func made(id string, num, r, c, stamp int) api.Item {
	return api.Item{Id: id, Ver: api.Ver{R: r, C: c}, Stamp: stamp, Kind: "pot", Num: num, At: 3 - 4i}
}

// dead is x, but Dead.
func dead(x api.Item) api.Item {
	x.Dead = true
	return x
}

func frag(v api.Vec, ids ...string) api.Frag { return api.Frag{Ids: ids, Vec: v} }

// name is an Id of six letters, of each i another one; they rise.
func name(i int) string {
	b := []byte("aaaaaa")
	for at := 5; i > 0; at-- {
		b[at] += byte(i % 26)
		i /= 26
	}
	return string(b)
}

// empty is a replica that has, and knows, nothing.
func empty(r int, f api.Pred) api.State { return api.State{R: r, F: f} }

// base has items in Store and in Out, Dead ones, too, and knows versions by Star and by pieces.
func base() api.State {
	return api.State{
		R: 3, F: and(less(5), or(kind("pot"), star), not(none)),
		Store: []api.Item{made("a", 3, 3, 1, 1), dead(made("c", 4, 1, 2, 4))},
		Out:   []api.Item{made("b", 5, 3, 2, 2), dead(made("d", 9, 2, 7, 9))},
		K:     api.Know{Star: api.Vec{1, 0, 2}, L: []api.Frag{frag(api.Vec{2}, "c"), frag(api.Vec{0, 7}, "d", "e")}},
		Count: 2, Clock: 9, Epoch: 4,
	}
}

// filled is a state with so many items in Store, and so many in Out; it may be, if there are at most 40 of them.
func filled(store, out int) api.State {
	s := empty(5, less(5))
	for i := range store + out {
		x := made(name(i*7), 4, 5, i+1, i+1)
		x.Dead = i%5 == 0
		if i < store {
			s.Store = list.Put(s.Store, x)
		} else {
			x.Num = 5
			s.Out = list.Put(s.Out, x)
		}
	}
	s.Count, s.Clock, s.K.Star[4] = store+out, store+out, store+out
	return s
}

// often is a state behind so many versions of two items.
func often(versions int) api.State {
	s, _ := local.New(2, more(500))
	s, _ = local.Create(s, "jar", "pot", 0, 0)
	s, _ = local.Create(s, "cup", "", 0, 9i)
	for n := range versions - 2 {
		s, _ = local.Update(s, []string{"jar", "cup"}[n%2], "pot", n, 3-4i)
	}
	return s
}

// greatest has the greatest, and the least, numbers that there are, and the longest texts.
func greatest() api.State {
	most := api.Vec{1000, 1000, 1000, 1000, 1000, 1000, 1000, 1000}
	x := api.Item{Id: "zzzzzzzz", Ver: api.Ver{R: 8, C: 1000}, Stamp: 1000000, Kind: "zzzzzzzz", Num: 1000000, At: 1000 - 1000i, Dead: true}
	y := x
	y.Id, y.Ver.C, y.Num, y.At = "zzzzzzzy", 999, -1000000, -1000+1000i
	return api.State{R: 8, F: near(1000-1000i, 7999999), Store: []api.Item{x}, Out: []api.Item{y}, K: api.Know{Star: most}, Count: 1000, Clock: 1000000, Epoch: 1000000}
}

// states may be.
func states() []api.State {
	l := []api.State{
		empty(1, star), empty(8, none), empty(3, less(2)), base(), filled(40, 0), filled(0, 40), filled(23, 17), filled(1, 0), often(2), often(999), often(1000), greatest(),
		{R: 1, F: star, Count: 1000, Clock: 1000000, Epoch: 1000000}, {R: 4, F: none, K: api.Know{L: []api.Frag{frag(api.Vec{1000}, "a", "b", "zzzzzzzz")}}},
	}
	for i, f := range filters() {
		s, _ := local.New(1+i%8, f)
		s, _ = local.Create(s, "jar", "pot", 4, -3+4i)
		s, _ = local.Create(s, "abcdefgh", "", -1000000, 1000-1000i)
		s, _ = recv.Item(s, dead(made("cup", 9, 1+(i+1)%8, 70, 64)))
		l = append(l, s)
	}
	return l
}

// small are a few states of few bytes, all unlike.
func small() []api.State {
	a, _ := local.New(1, star)
	b, _ := local.Create(a, "a", "", 1, 0)
	c, _ := local.Update(b, "a", "pot", -70, 1-2i)
	d, _ := local.Delete(c, "a")
	return []api.State{a, b, c, d, empty(1, none), empty(2, star), empty(8, less(1000000))}
}

// oddStates may not be: each field by itself, and all of them.
func oddStates() []api.State {
	l := []api.State{{}, {R: 1}, {F: star}, filled(41, 0), filled(20, 21)}
	for _, change := range []func(s *api.State){
		func(s *api.State) { s.R = 0 }, func(s *api.State) { s.R = 9 }, func(s *api.State) { s.R = -1 }, func(s *api.State) { s.R = math.MinInt }, func(s *api.State) { s.Count = -1 }, func(s *api.State) { s.Count = 1 }, func(s *api.State) { s.Count = 1001 }, func(s *api.State) { s.Clock = 8 }, func(s *api.State) { s.Clock = 1000001 },
		func(s *api.State) { s.Epoch = -1 }, func(s *api.State) { s.Epoch = 1000001 }, func(s *api.State) { s.Epoch = math.MaxInt }, func(s *api.State) { s.F = api.Pred{} }, func(s *api.State) { s.F.Op = 11 }, func(s *api.State) { s.F = star }, func(s *api.State) { s.F.N = 1 }, func(s *api.State) { s.F = not() },
		func(s *api.State) { s.K = api.Know{} }, func(s *api.State) { s.K.Star[7] = -1 }, func(s *api.State) { s.K.Star[2] = 3 }, func(s *api.State) { slices.Reverse(s.K.L) }, func(s *api.State) { s.K.L[0].Ids = nil }, func(s *api.State) { s.K.L[1].Ids[0] = "E" },
		func(s *api.State) { slices.Reverse(s.Store) }, func(s *api.State) { s.Out[1] = s.Out[0] }, func(s *api.State) { s.Store, s.Out = s.Out, s.Store }, func(s *api.State) { s.Store[0].Id = "" }, func(s *api.State) { s.Out[0].Stamp = 0 }, func(s *api.State) { s.Out[0].Ver.R = 9 }, func(s *api.State) { s.Store[0].At = complex(math.NaN(), 0) },
	} {
		s := base()
		change(&s)
		l = append(l, s)
	}
	return l
}

// body is s as bytes.
func body(t *testing.T, s api.State) []byte {
	t.Helper()
	b, err := enc.PutState(s)
	if err != nil {
		t.Fatalf("PutState(%+v): %v", s, err)
	}
	return b
}

// sealed are l, one behind the other, and their sum; not by package code, to be a second reading of it.
func sealed(l ...[]byte) []byte {
	b := slices.Concat(l...)
	return binary.LittleEndian.AppendUint32(b, crc32.ChecksumIEEE(b))
}

// number is n as bytes.
func number(n int) []byte { return binary.AppendVarint(nil, int64(n)) }

// framed is what a record of those bytes would be, whether they are a state or not.
func framed(b []byte) []byte { return sealed(number(len(b)), b) }

// record is the record of s.
func record(t *testing.T, s api.State) []byte {
	t.Helper()
	return framed(body(t, s))
}

// row are the records of l, one behind the other.
func row(t *testing.T, l ...api.State) []byte {
	t.Helper()
	var b []byte
	for _, s := range l {
		b = append(b, record(t, s)...)
	}
	return b
}

// stands tells whether a record stands at the beginning of b, of what state, and how long it is: it tries all beginnings of b, and for each of them all bytes that could be the state's.
func stands(b []byte) (api.State, int) {
	for n := 5; n <= len(b); n++ {
		for k := 1; k <= 5 && k <= n-4; k++ {
			inside := b[k : n-4]
			if !bytes.Equal(b[:k], number(len(inside))) || !bytes.Equal(b[:n], framed(inside)) {
				continue
			}
			if s, err := enc.GetState(inside); err == nil {
				return s, n
			}
		}
	}
	return api.State{}, 0
}

// wholes tells the state of the last one of the whole ones of b, and how many bytes these are, as the chapter's sentences read.
func wholes(b []byte) (last api.State, all int) {
	for {
		s, n := stands(b[all:])
		if n == 0 {
			return last, all
		}
		last, all = s, all+n
	}
}

// few is how much of b a failure shows.
func few(b []byte) []byte { return b[:min(len(b), 80)] }

// checkTold asks of what Last or Load told that it is that state; ErrNone and a zero one, if n, how many bytes the whole ones are, is 0.
func checkTold(t *testing.T, s api.State, err error, want api.State, n int) {
	t.Helper()
	switch {
	case n == 0 && (err != api.ErrNone || !reflect.ValueOf(s).IsZero()):
		t.Fatalf("%+v, %v; want none, %v", s, err, api.ErrNone)
	case n > 0 && (err != nil || !alike(s, want)):
		t.Fatalf("%+v, %v; want %+v", s, err, want)
	}
}

// checkLast asks what Last tells of b; that b stays; and the same of b with more behind it, beyond its length.
func checkLast(t *testing.T, b []byte, want api.State, n int) {
	t.Helper()
	given := copyOf(b)
	s, all, err := jour.Last(given)
	if all != n {
		t.Fatalf("of %v, %d bytes, the whole ones are %d, want %d", few(b), len(b), all, n)
	}
	checkTold(t, s, err, want, n)
	if !untouched(given, b) {
		t.Fatalf("Last changed %v to %v", few(b), few(given))
	}
}

// keeping is a disk that keeps b.
func keeping(t *testing.T, b []byte) *disk.Disk {
	t.Helper()
	d := disk.New()
	if err := d.Add(b); err != nil {
		t.Fatal(err)
	}
	return d
}

// fallen is a disk that keeps b, and is down.
func fallen(t *testing.T, b []byte) *disk.Disk {
	t.Helper()
	d := keeping(t, b)
	if d.Fuse(0) != nil || d.Add([]byte("over")) != api.ErrDown {
		t.Fatal("the disk isn't down")
	}
	return d
}

// checkDisk asks what d keeps, and whether it is down.
func checkDisk(t *testing.T, d *disk.Disk, want []byte, down bool) {
	t.Helper()
	if got := d.Bytes(); !bytes.Equal(got, want) || d.Down() != down {
		t.Fatalf("the disk keeps %d bytes %v, down %v; want %d bytes %v, down %v", len(got), few(got), d.Down(), len(want), few(want), down)
	}
}

// checkFuse asks that d has a fuse of n bytes; none, if n is -1.
func checkFuse(t *testing.T, d *disk.Disk, n int) {
	t.Helper()
	burnt := 0
	for ; burnt < 100 && d.Add([]byte{1}) == nil; burnt++ {
	}
	if n < 0 && burnt < 100 || n > 0 && burnt != n-1 || n == 0 && burnt != 0 {
		t.Fatalf("%d bytes got there, with a fuse of %d", burnt, n)
	}
}

// checkSave asks for Save's error, and for what the disk keeps then.
func checkSave(t *testing.T, d *disk.Disk, s api.State, want error, keeps []byte, down bool) {
	t.Helper()
	if err := jour.Save(d, s); err != want {
		t.Fatalf("Save: %v, want %v", err, want)
	}
	checkDisk(t, d, keeps, down)
}

// checkLoad asks what Load tells, and what the disk, which is up, keeps then: the whole ones alone.
func checkLoad(t *testing.T, d *disk.Disk, want api.State, whole []byte) {
	t.Helper()
	s, err := jour.Load(d)
	checkTold(t, s, err, want, len(whole))
	checkDisk(t, d, whole, false)
}

// checkDown asks that Load of d, which is down, is ErrDown, and that it changes nothing.
func checkDown(t *testing.T, d *disk.Disk, keeps []byte) {
	t.Helper()
	if s, err := jour.Load(d); err != api.ErrDown || !reflect.ValueOf(s).IsZero() {
		t.Fatalf("Load of a disk that is down: %+v, %v", s, err)
	}
	checkDisk(t, d, keeps, true)
}

// checkRecord asks for the record of s, held against layers 16 and 17, and against a second reading of layer 16.
func checkRecord(t *testing.T, s api.State) {
	t.Helper()
	given := copyOf(s)
	got, err := jour.Record(given)
	b := body(t, s)
	if err != nil || !bytes.Equal(got, code.Seal(slices.Concat(code.Num(len(b)), b))) || !bytes.Equal(got, framed(b)) {
		t.Fatalf("Record(%+v) = %v, %v; want %v", s, few(got), err, few(framed(b)))
	}
	if !untouched(given, s) {
		t.Fatalf("Record changed %+v to %+v", s, given)
	}
	inside, err := code.Open(got)
	n, used := code.GetNum(inside)
	if err != nil || n != len(inside)-used {
		t.Fatalf("a record of %d bytes and the number of %d is sealed: %v", n, used, err)
	}
	if back, err := enc.GetState(inside[used:]); err != nil || !alike(back, s) {
		t.Fatalf("the record of %+v has %+v, %v", s, back, err)
	}
	checkLast(t, got, s, len(got))
}

func TestRecord(t *testing.T) { // P19.1
	for _, s := range slices.Concat(states(), small()) {
		checkRecord(t, s)
	}
}

// TestRecordWritten asks for records written out, byte by byte.
func TestRecordWritten(t *testing.T) { // P19.1
	x := made("ab", -3, 2, 1, 64)
	for _, c := range []struct {
		s    api.State
		want []byte
	}{
		{empty(3, less(2)), []byte{34, 6, 10, 4, 0, 0, 0, 0, 0, 0, 0, 0, 0, 0, 0, 0, 0, 0}},
		{empty(1, star), []byte{32, 2, 2, 0, 0, 0, 0, 0, 0, 0, 0, 0, 0, 0, 0, 0, 0}},
		{
			api.State{R: 2, F: kind("pot"), Store: []api.Item{x}, K: api.Know{Star: api.Vec{0, 1}}, Count: 1, Clock: 64, Epoch: 100},
			[]byte{74, 4, 6, 6, 'p', 'o', 't', 2, 4, 'a', 'b', 4, 2, 128, 1, 6, 'p', 'o', 't', 5, 6, 7, 0, 0, 0, 2, 0, 0, 0, 0, 0, 0, 0, 2, 128, 1, 200, 1},
		},
	} {
		if got, err := jour.Record(c.s); err != nil || !bytes.Equal(got, sealed(c.want)) {
			t.Errorf("Record(%+v) = %v, %v; want %v", c.s, got, err, sealed(c.want))
		}
	}
}

// sized is a state of just n bytes: it knows versions of many Ids.
func sized(t *testing.T, n int) api.State {
	t.Helper()
	s := empty(1, star)
	s.K.L = []api.Frag{frag(api.Vec{0, 1}, "a")}
	left := func() int { return n - len(body(t, s)) }
	// Each Id more, of six letters, has seven bytes; how many there are has at most two more than one has.
	for i := range max(0, (left()-2)/7) {
		s.K.L[0].Ids = append(s.K.L[0].Ids, name(i))
	}
	for left() > 0 && len(s.K.L[0].Ids[0]) < 5 {
		s.K.L[0].Ids[0] += "a"
	}
	for _, x := range []*int{&s.Epoch, &s.Clock} {
		for _, great := range []int{64, 8192} {
			if left() > 0 {
				*x = great
			}
		}
	}
	if left() != 0 {
		t.Fatalf("a state of %d bytes, want %d", len(body(t, s)), n)
	}
	return s
}

// TestRecordLengths asks of states at each length at which the number of their bytes has one byte more, and at those beside it.
func TestRecordLengths(t *testing.T) { // P19.1
	for _, c := range []struct{ n, digits int }{{62, 1}, {63, 1}, {64, 2}, {65, 2}, {8190, 2}, {8191, 2}, {8192, 3}, {8193, 3}, {1<<20 - 1, 3}, {1 << 20, 4}} {
		s := sized(t, c.n)
		b := record(t, s)
		if len(b) != c.digits+c.n+4 {
			t.Fatalf("a record of %d bytes, of a state of %d", len(b), c.n)
		}
		checkRecord(t, s)
		a := small()[2]
		checkLast(t, slices.Concat(b, record(t, a)), a, len(b)+len(record(t, a)))
		for _, cut := range []int{1, 4, 5, c.n, c.n + 3, len(b)} {
			checkLast(t, slices.Concat(record(t, a), b[:len(b)-cut]), a, len(record(t, a)))
		}
	}
}

func TestRecordOfOdd(t *testing.T) { // P19.1, R3
	for _, s := range oddStates() {
		if local.May(s) {
			t.Fatalf("%+v may be", s)
		}
		given := copyOf(s)
		if b, err := jour.Record(given); err != api.ErrArg || len(b) > 0 || !untouched(given, s) {
			t.Fatalf("Record(%+v) = %v, %v, want %v", s, few(b), err, api.ErrArg)
		}
	}
}

func TestLastOfNone(t *testing.T) { // P19.1, R3
	for _, b := range [][]byte{nil, {}, {0}, {2}, {32}, {255}, {128}, {0, 0, 0, 0}, {0, 0, 0, 0, 0}, make([]byte, 100), bytes.Repeat([]byte{255}, 100), bytes.Repeat([]byte{2}, 100), []byte("gallipot")} {
		checkLast(t, b, api.State{}, 0)
	}
}

func TestLastOfMany(t *testing.T) { // P19.1
	l := states()
	for i, a := range l {
		checkLast(t, row(t, a), a, len(row(t, a)))
		checkLast(t, row(t, a, a), a, len(row(t, a, a)))
		for _, b := range []api.State{l[0], l[(i+1)%len(l)], l[(i+7)%len(l)], base()} {
			checkLast(t, row(t, a, b), b, len(row(t, a, b)))
			checkLast(t, row(t, b, a, b), b, len(row(t, b, a, b)))
			checkLast(t, row(t, b, b, a), a, len(row(t, b, b, a)))
		}
	}
	for n := 1; n <= len(l); n++ {
		checkLast(t, row(t, l[:n]...), l[n-1], len(row(t, l[:n]...)))
	}
	r := rand.New(rand.NewSource(19))
	for range 200 {
		var some []api.State
		for range 1 + r.Intn(12) {
			some = append(some, l[r.Intn(len(l))])
		}
		checkLast(t, row(t, some...), some[len(some)-1], len(row(t, some...)))
	}
}

// fault are bytes at whose beginning no record stands, and why.
type fault struct {
	why string
	b   []byte
}

// broken are faults by each reason, made of a state that may be.
func broken(t *testing.T, s api.State) []fault {
	t.Helper()
	b := body(t, s)
	whole := framed(b)
	n := len(b)
	long := slices.Concat(b, []byte{0})
	digits := number(n)
	longer := slices.Clone(digits)
	longer[len(longer)-1] += 128
	swapped := slices.Clone(whole)
	slices.Reverse(swapped[len(swapped)-4:])
	m, _ := enc.Put(api.Msg{Kind: api.Ack, From: 1, To: 2, Star: true})
	l := []fault{
		{"a length one too great", sealed(number(n+1), b)},
		{"a length one too great, one too few there", sealed(number(n+1), b)[:n]},
		{"a length one too small", sealed(number(n-1), b)},
		{"a length of 0", sealed(number(0), b)},
		{"the greatest length", sealed(number(math.MaxInt32), b)},
		{"a length by 4 too great", sealed(number(n+4), b)},
		{"a length by 5 too great", sealed(number(n+5), b)},
		{"a great length", sealed(number(1<<20), b)},
		{"a length beyond a number", sealed(number(math.MaxInt32+1), b)},
		{"a length far beyond", sealed(number(1<<40+n), b)},
		{"the greatest length there is", sealed(number(math.MaxInt), b)},
		{"a length of -1", sealed(number(-1), b)},
		{"a negative length", sealed(number(-n), b)},
		{"a length like it, negative", sealed(number(-n-1), b)},
		{"the least length", sealed(number(math.MinInt32), b)},
		{"a length of the sum's bytes, negative", sealed(number(-4), b)},
		{"a negative one, so that nothing is left", sealed(number(-4-len(digits)), b)},
		{"a length not in its shortest form", sealed(longer, []byte{0}, b)},
		{"a length of two zeros more", sealed(longer, []byte{128, 0}, b)},
		{"a length of many zeros more", sealed(longer, []byte{128, 128, 128, 128, 0}, b)},
		{"a length that doesn't end", sealed(bytes.Repeat([]byte{128}, 9), b)},
		{"a length that isn't twice the bytes", sealed([]byte{byte(n)}, b)},
		{"a length of four bytes", sealed(binary.LittleEndian.AppendUint32(nil, uint32(n)), b)},
		{"no length", sealed(b)},
		{"no sum", slices.Concat(digits, b)},
		{"a sum of the state alone", slices.Concat(digits, sealed(b))},
		{"a sum that begins behind the first byte", slices.Concat(whole[:1], sealed(whole[1:len(whole)-4]))},
		{"the sum turned round", swapped},
		{"a sum of 0", slices.Concat(digits, b, make([]byte, 4))},
		{"the sum ahead", slices.Concat(whole[len(whole)-4:], digits, b)},
		{"sealed twice, and counted", framed(sealed(b))},
		{"a byte between, sealed and counted", framed(long)},
		{"a byte between, sealed", sealed(number(n), long)},
		{"a byte between, which isn't sealed", slices.Concat(digits, b, []byte{0}, whole[len(whole)-4:])},
		{"a byte between, counted alone", slices.Concat(number(n+1), b, []byte{0}, whole[len(whole)-4:])},
		{"four bytes between", framed(slices.Concat(b, make([]byte, 4)))},
		{"the state twice", framed(slices.Concat(b, b))},
		{"a byte ahead of the state", framed(slices.Concat([]byte{0}, b))},
		{"a byte ahead of the state, not counted", sealed(number(n), []byte{0}, b)},
		{"no state", framed(nil)},
		{"a zero", framed([]byte{0})},
		{"zeros", framed(make([]byte, n))},
		{"all bits", framed(bytes.Repeat([]byte{255}, n))},
		{"letters", framed([]byte("gallipot"))},
		{"a message", framed(m)},
		{"a message alone", m},
		{"a record in a record", framed(whole)},
		{"a byte ahead", slices.Concat([]byte{0}, whole)},
		{"a byte of all bits ahead", slices.Concat([]byte{255}, whole)},
		{"its own first byte ahead", slices.Concat(whole[:1], whole)},
		{"four bytes ahead", slices.Concat(make([]byte, 4), whole)},
		{"the sum of none ahead", slices.Concat(sealed(), whole)},
		{"an empty one ahead", slices.Concat(framed(nil), whole)},
	}
	for i := range b {
		l = append(l, fault{"a state that is cut off", framed(b[:i])}, fault{"a state without its beginning", framed(b[i+1:])})
	}
	return l
}

// TestLastBehind asks that what stands behind the whole ones, and is no record, is left, of none, one and three; and that a whole one behind it isn't told.
func TestLastBehind(t *testing.T) { // P19.1
	a, b, c := small()[1], small()[2], base()
	for _, s := range []api.State{small()[0], small()[3], base(), often(70)} {
		whole := record(t, s)
		for _, f := range broken(t, s) {
			bad := f.b
			if _, n := stands(bad); n != 0 {
				t.Fatalf("%s: by the test's own reading a record of %d bytes stands there", f.why, n)
			}
			for _, l := range [][]api.State{{}, {a}, {c}, {a, b, c}, {s, s}} {
				ahead := row(t, l...)
				last := append([]api.State{{}}, l...)[len(l)]
				checkLast(t, slices.Concat(ahead, bad), last, len(ahead))
				checkLast(t, slices.Concat(ahead, bad, whole), last, len(ahead))
			}
		}
	}
}

// TestLastOfOddStates asks that a record of bytes that are no state that may be is none, though they read as one.
func TestLastOfOddStates(t *testing.T) { // P19.1
	// The last three bytes are Count, Clock and Epoch.
	b := body(t, base())
	tail := func(l ...int) []byte {
		told := slices.Clone(b[:len(b)-3])
		for _, n := range l {
			told = append(told, number(n)...)
		}
		return told
	}
	head := func(n ...byte) []byte { return slices.Concat(n, b[1:]) }
	checkLast(t, framed(tail(2, 9, 4)), base(), len(b)+2+4)
	for _, bad := range [][]byte{
		tail(1, 9, 4), tail(0, 9, 4), tail(-1, 9, 4), tail(1001, 9, 4), tail(2, 8, 4), tail(2, 1000001, 4), tail(2, -1, 4), tail(2, 9, -1), tail(2, 9, 1000001), tail(2, 9, math.MaxInt32), tail(2, 9, 4, 0), tail(2, 9), tail(2), tail(), tail(2, 9, 1<<40),
		head(0), head(18), head(1), head(134, 0), head(),
	} {
		checkLast(t, framed(bad), api.State{}, 0)
		ahead := record(t, small()[1])
		checkLast(t, slices.Concat(ahead, framed(bad), ahead), small()[1], len(ahead))
	}
}

// TestLastTurned turns each byte of the first, a middle and the last record of a row.
func TestLastTurned(t *testing.T) { // P19.1
	l := []api.State{small()[1], small()[2], base(), small()[0], small()[3]}
	b := row(t, l...)
	var starts []int
	for i := range l {
		starts = append(starts, len(row(t, l[:i]...)))
	}
	starts = append(starts, len(b))
	for i := range l {
		last := append([]api.State{{}}, l...)[i]
		for at := starts[i]; at < starts[i+1]; at++ {
			for x := 1; x < 256; x++ {
				b[at] ^= byte(x)
				if s, n, err := jour.Last(b); n != starts[i] {
					t.Fatalf("byte %d turned by %d: %d bytes, want %d", at, x, n, starts[i])
				} else {
					checkTold(t, s, err, last, n)
				}
				b[at] ^= byte(x)
			}
		}
	}
	checkLast(t, b, l[len(l)-1], len(b))
}

// TestLastCutOff cuts a row off at each of its bytes: of one record, of some, and of large ones.
func TestLastCutOff(t *testing.T) { // P19.1
	for _, l := range [][]api.State{{small()[0]}, {base()}, small(), {base(), small()[0], filled(9, 9), small()[1], greatest(), often(40)}, {filled(40, 0), filled(0, 40)}} {
		b := row(t, l...)
		ends := map[int]api.State{}
		for i := range l {
			ends[len(row(t, l[:i+1]...))] = l[i]
		}
		whole, last := 0, api.State{}
		for n := range len(b) + 1 {
			if s, end := ends[n]; end {
				whole, last = n, s
			}
			checkLast(t, b[:n], last, whole)
			// What stands behind its length, the rest of it, isn't asked.
			s, all, err := jour.Last(b[:n:len(b)])
			if checkTold(t, s, err, last, whole); all != whole {
				t.Fatalf("of %d bytes %d are whole, want %d", n, all, whole)
			}
			// Zeros in the place of what is missing don't make it whole, unless it was zeros.
			if zeros := make([]byte, len(b)-n); len(b) < 1000 && !bytes.Equal(b[n:], zeros) {
				want, all := wholes(slices.Concat(b[:n], zeros))
				if all < whole || all == len(b) {
					t.Fatalf("by the test's own reading %d bytes are whole", all)
				}
				checkLast(t, slices.Concat(b[:n], zeros), want, all)
			}
		}
	}
}

// TestLastSumAlone asks of a last record whose sum alone is cut off, or wrong, at each of its bytes.
func TestLastSumAlone(t *testing.T) { // P19.1
	for _, s := range states() {
		ahead, b := row(t, base(), small()[2]), record(t, s)
		for cut := 1; cut <= 4; cut++ {
			checkLast(t, slices.Concat(ahead, b[:len(b)-cut]), small()[2], len(ahead))
			for _, x := range []byte{1, 128, 255} {
				bad := slices.Concat(ahead, b)
				bad[len(bad)-cut] ^= x
				checkLast(t, bad, small()[2], len(ahead))
			}
		}
	}
}

// TestLastDrawn asks of rows of records and other bytes, drawn at random and changed here and there, held against the chapter's sentences read a second time.
func TestLastDrawn(t *testing.T) { // P19.1
	r := rand.New(rand.NewSource(4))
	told, left := 0, 0
	for range 4000 {
		b := drawnRow(t, r)
		for range r.Intn(3) {
			if len(b) > 0 && r.Intn(2) == 0 {
				change(r, &b)
			}
		}
		want, n := wholes(b)
		checkLast(t, b, want, n)
		if n > 0 {
			told++
		}
		if n < len(b) {
			left++
		}
	}
	if told < 1500 || left < 1500 {
		t.Errorf("%d had records, %d had something behind them", told, left)
	}
}

// drawnRow are records and other bytes, one behind the other.
func drawnRow(t *testing.T, r *rand.Rand) []byte {
	t.Helper()
	var b []byte
	l := small()
	for range r.Intn(7) {
		s := l[r.Intn(len(l))]
		switch r.Intn(8) {
		case 0:
			other := make([]byte, r.Intn(30))
			r.Read(other)
			b = append(b, other...)
		case 1:
			other := make([]byte, r.Intn(30))
			r.Read(other)
			b = append(b, framed(other)...)
		case 2:
			b = append(b, record(t, s)[:r.Intn(len(record(t, s)))]...)
		default:
			b = append(b, record(t, s)...)
		}
	}
	return b
}

// change turns a byte of b, or takes it out, or puts one in.
func change(r *rand.Rand, b *[]byte) {
	i := r.Intn(len(*b))
	switch r.Intn(3) {
	case 0:
		(*b)[i] ^= byte(1 + r.Intn(255))
	case 1:
		*b = slices.Delete(*b, i, i+1)
	case 2:
		*b = slices.Insert(*b, i, byte(r.Intn(256)))
	}
}

func TestSave(t *testing.T) { // P19.2
	d := disk.New()
	var all []byte
	for _, s := range slices.Concat(states(), small(), states()) {
		all = append(all, record(t, s)...)
		checkSave(t, d, s, nil, all, false)
	}
	checkFuse(t, d, -1)
	// Whatever stands there, whole or not, it is added behind that.
	for _, was := range [][]byte{{0}, {1, 2, 3}, record(t, base())[:9], row(t, base(), greatest()), slices.Concat(record(t, base()), []byte{7})} {
		d := keeping(t, was)
		b := record(t, small()[1])
		checkSave(t, d, small()[1], nil, slices.Concat(was, b), false)
		checkSave(t, d, small()[1], nil, slices.Concat(was, b, b), false)
	}
}

func TestNilDisk(t *testing.T) { // P19.2, P1, R3
	for _, s := range slices.Concat(states(), oddStates()) {
		if err := jour.Save(nil, s); err != api.ErrArg {
			t.Fatalf("Save of a nil disk: %v", err)
		}
	}
	if s, err := jour.Load(nil); err != api.ErrArg || !reflect.ValueOf(s).IsZero() {
		t.Fatalf("Load of a nil disk: %+v, %v", s, err)
	}
}

// TestSaveOfOdd asks that a state that may not be is ErrArg, ahead of ErrDown, and that nothing is added, and the fuse stays.
func TestSaveOfOdd(t *testing.T) { // P19.2, R1, R3
	for _, s := range oddStates() {
		for _, was := range [][]byte{{}, {1, 2, 3}, row(t, base(), small()[0])} {
			d := keeping(t, was)
			checkSave(t, d, s, api.ErrArg, was, false)
			checkFuse(t, d, -1)
			checkSave(t, fallen(t, was), s, api.ErrArg, was, true)
			for _, n := range []int{0, 1, 5, 40} {
				d := keeping(t, was)
				d.Fuse(n)
				checkSave(t, d, s, api.ErrArg, was, false)
				checkSave(t, d, s, api.ErrArg, was, false)
				checkFuse(t, d, n)
			}
		}
	}
}

func TestSaveDown(t *testing.T) { // P19.2
	for _, s := range append(states(), small()...) {
		for _, was := range [][]byte{{}, {1, 2, 3}, row(t, base(), small()[0])} {
			d := fallen(t, was)
			checkSave(t, d, s, api.ErrDown, was, true)
			checkSave(t, d, s, api.ErrDown, was, true)
			d.Up()
			checkSave(t, d, s, nil, slices.Concat(was, record(t, s)), false)
		}
	}
}

// TestSaveFuse saves with a fuse of each number of bytes, up to some more than the record has, and beyond.
func TestSaveFuse(t *testing.T) { // P19.2, P19.4
	for _, s := range []api.State{small()[0], small()[3], base(), greatest(), filled(9, 0), often(70)} {
		b := record(t, s)
		for _, was := range [][]byte{{}, record(t, small()[1]), {9, 9}} {
			for n := range len(b) + 20 {
				d := keeping(t, was)
				d.Fuse(n)
				if n <= len(b) {
					checkSave(t, d, s, api.ErrDown, slices.Concat(was, b[:n]), true)
					checkSave(t, d, s, api.ErrDown, slices.Concat(was, b[:n]), true)
					continue
				}
				checkSave(t, d, s, nil, slices.Concat(was, b), false)
				checkFuse(t, d, n-len(b))
			}
			d := keeping(t, was)
			d.Fuse(math.MaxInt)
			checkSave(t, d, s, nil, slices.Concat(was, b), false)
		}
	}
	// A fuse that burns down over several of them.
	a, b := small()[0], small()[1]
	ra, rb := record(t, a), record(t, b)
	for n := range len(rb) + 1 {
		d := disk.New()
		d.Fuse(2*len(ra) + n)
		checkSave(t, d, a, nil, ra, false)
		if n == 0 {
			checkSave(t, d, a, api.ErrDown, row(t, a, a), true)
			continue
		}
		checkSave(t, d, a, nil, row(t, a, a), false)
		checkSave(t, d, b, api.ErrDown, slices.Concat(ra, ra, rb[:n]), true)
	}
}

func TestLoad(t *testing.T) { // P19.2
	d := disk.New()
	checkLoad(t, d, api.State{}, nil)
	checkLoad(t, d, api.State{}, nil)
	var all []byte
	for _, s := range slices.Concat(states(), small()) {
		all = append(all, record(t, s)...)
		checkSave(t, d, s, nil, all, false)
		checkLoad(t, d, s, all)
		checkLoad(t, d, s, all)
	}
	checkFuse(t, d, -1)
}

// TestLoadBehind asks that what stands behind the whole ones, and is no record, is cut off; all of it, where there are none.
func TestLoadBehind(t *testing.T) { // P19.2
	a, b, c := small()[1], small()[2], base()
	rc := record(t, c)
	for _, f := range broken(t, small()[3]) {
		for _, behind := range [][]byte{f.b, slices.Concat(f.b, rc), slices.Concat(f.b, f.b, []byte{1})} {
			for _, l := range [][]api.State{{}, {a}, {c}, {a, b}, {b, a, c}} {
				whole := row(t, l...)
				last := append([]api.State{{}}, l...)[len(l)]
				d := keeping(t, slices.Concat(whole, behind))
				checkLoad(t, d, last, whole)
				checkLoad(t, d, last, whole)
				checkSave(t, d, c, nil, slices.Concat(whole, rc), false)
				checkLoad(t, d, c, slices.Concat(whole, rc))
			}
		}
	}
}

// TestLoadDown asks that Load of a disk that is down is ErrDown, whatever it keeps, and changes nothing; and that it tells what stands there once it is up.
func TestLoadDown(t *testing.T) { // P19.2, R3
	whole := row(t, base(), small()[1])
	for _, c := range []struct{ keeps, whole []byte }{{nil, nil}, {[]byte{1, 2, 3}, nil}, {whole, whole}, {slices.Concat(whole, []byte{0}), whole}, {slices.Concat(whole, whole[:20]), whole}, {whole[:20], nil}, {whole[:len(whole)-1], record(t, base())}} {
		d := fallen(t, c.keeps)
		checkDown(t, d, c.keeps)
		checkDown(t, d, c.keeps)
		d.Up()
		checkDisk(t, d, c.keeps, false)
		last, n := wholes(c.keeps)
		if n != len(c.whole) {
			t.Fatalf("%d bytes are whole, want %d", n, len(c.whole))
		}
		checkLoad(t, d, last, c.whole)
		checkFuse(t, d, -1)
	}
}

// TestLoadFuse asks that Load of a disk with a fuse leaves it.
func TestLoadFuse(t *testing.T) { // P19.2
	whole := row(t, base(), small()[1])
	for n := range 30 {
		for _, behind := range []string{"", "x", "gallipot"} {
			d := keeping(t, slices.Concat(whole, []byte(behind)))
			d.Fuse(n)
			checkLoad(t, d, small()[1], whole)
			checkLoad(t, d, small()[1], whole)
			checkFuse(t, d, n)
			d = keeping(t, []byte(behind))
			d.Fuse(n)
			checkLoad(t, d, api.State{}, nil)
			checkFuse(t, d, n)
		}
	}
}

// TestExample is the chapter's own.
func TestExample(t *testing.T) { // P19.2
	for _, a := range small() {
		for _, b := range append(small(), states()...) {
			d := disk.New()
			checkSave(t, d, a, nil, row(t, a), false)
			checkSave(t, d, b, nil, row(t, a, b), false)
			checkLoad(t, d, b, row(t, a, b))
		}
	}
}

// TestSaveCutOff saves b behind none, one and two states with a fuse of each number of bytes, and then loads, saves and loads.
func TestSaveCutOff(t *testing.T) { // P19.4
	c := small()[2]
	for _, b := range []api.State{small()[1], small()[4], base(), greatest(), filled(3, 2), often(70)} {
		rb := record(t, b)
		for _, l := range [][]api.State{{}, {small()[0]}, {b}, {base(), small()[3]}} {
			whole := row(t, l...)
			for n := range len(rb) + 1 {
				d := disk.New()
				for i, a := range l {
					checkSave(t, d, a, nil, row(t, l[:i+1]...), false)
				}
				d.Fuse(n)
				there := slices.Concat(whole, rb[:n])
				checkSave(t, d, b, api.ErrDown, there, true)
				checkDown(t, d, there)
				d.Up()
				want, stands := append([]api.State{{}}, l...)[len(l)], whole
				if n == len(rb) {
					want, stands = b, there
				}
				checkLoad(t, d, want, stands)
				checkSave(t, d, c, nil, slices.Concat(stands, record(t, c)), false)
				checkLoad(t, d, c, slices.Concat(stands, record(t, c)))
			}
		}
	}
}

// TestCutOffAgain cuts writes off one behind the other, at all places, with a Load behind each of them.
func TestCutOffAgain(t *testing.T) { // P19.4
	l := small()
	for step := 1; step < 30; step++ {
		d := disk.New()
		var whole []byte
		var last api.State
		for i := range 60 {
			s := l[i%len(l)]
			b := record(t, s)
			n := i * step % (len(b) + 1)
			d.Fuse(n)
			checkSave(t, d, s, api.ErrDown, slices.Concat(whole, b[:n]), true)
			d.Up()
			if n == len(b) {
				whole, last = slices.Concat(whole, b), s
			}
			checkLoad(t, d, last, whole)
		}
	}
}

// TestSaveWithoutLoad asks, as the chapter's sentences read, that what is saved behind a write that was cut off, with no Load between, stands behind no whole one.
func TestSaveWithoutLoad(t *testing.T) { // P19.1, P19.2
	a, b, c := small()[0], small()[1], small()[2]
	ra, rb, rc := record(t, a), record(t, b), record(t, c)
	for n := range len(rb) + 1 {
		d := keeping(t, ra)
		d.Fuse(n)
		checkSave(t, d, b, api.ErrDown, slices.Concat(ra, rb[:n]), true)
		d.Up()
		there := slices.Concat(ra, rb[:n], rc)
		checkSave(t, d, c, nil, there, false)
		if n == 0 || n == len(rb) {
			checkLoad(t, d, c, there)
		} else {
			checkLoad(t, d, a, ra)
		}
	}
}

// TestDrawnDeeds does deeds drawn at random to a disk, and holds it against bytes, a fuse and whether it is down, kept beside it, and the chapter's sentences read a second time.
func TestDrawnDeeds(t *testing.T) { // P19.1, P19.2, P19.4
	r := rand.New(rand.NewSource(19))
	states, odd := small(), oddStates()
	loads, cuts := 0, 0
	for range 1200 {
		d := disk.New()
		s := sheet{fuse: -1}
		for range 25 {
			switch x := states[r.Intn(len(states))]; r.Intn(12) {
			case 0:
				x = odd[r.Intn(len(odd))]
				checkSave(t, d, x, api.ErrArg, s.b, s.down)
			case 1, 2:
				n := r.Intn(60)
				if d.Fuse(n) == nil {
					s.fuse = n
				}
			case 3, 4:
				d.Up()
				s.fuse, s.down = -1, false
			case 5:
				b := make([]byte, r.Intn(9))
				r.Read(b)
				d.Add(b)
				s.add(b)
			case 6, 7, 8:
				if s.down {
					checkDown(t, d, s.b)
					continue
				}
				last, n := wholes(s.b)
				if n < len(s.b) {
					cuts++
				}
				loads++
				s.b = s.b[:n]
				checkLoad(t, d, last, s.b)
			default:
				want := s.add(record(t, x))
				checkSave(t, d, x, want, s.b, s.down)
			}
			checkDisk(t, d, s.b, s.down)
		}
	}
	if loads < 3000 || cuts < 500 {
		t.Errorf("%d loads, of which %d cut something off", loads, cuts)
	}
}

// sheet is a disk as layer 18's sentences read; it has no fuse, if that is -1.
type sheet struct {
	b    []byte
	fuse int
	down bool
}

// add tells the error of an Add of b.
func (s *sheet) add(b []byte) error {
	if s.down {
		return api.ErrDown
	}
	if s.fuse < 0 || s.fuse > len(b) {
		s.b = slices.Concat(s.b, b)
		s.fuse = max(-1, s.fuse-len(b))
		return nil
	}
	s.b = slices.Concat(s.b, b[:s.fuse])
	s.fuse, s.down = -1, true
	return api.ErrDown
}

// TestRecordNew asks that a record is new memory, and that the state stays, and isn't kept.
func TestRecordNew(t *testing.T) { // P19.3, R2
	for _, s := range append(states(), small()...) {
		want := record(t, s)
		given := copyOf(s)
		b, _ := jour.Record(given)
		again, _ := jour.Record(given)
		apart(t, b, again, given)
		overwrite(b)
		if !bytes.Equal(again, want) || !untouched(given, s) {
			t.Fatalf("a record, written over: another one is %v, the state %+v", few(again), given)
		}
		overwrite(given)
		if third, err := jour.Record(copyOf(s)); err != nil || !bytes.Equal(third, want) || !bytes.Equal(again, want) {
			t.Fatalf("the state, written over: its records are %v, %v", few(again), few(third))
		}
	}
}

// TestLastNew asks that what Last tells is new memory, and that the bytes stay, and aren't kept.
func TestLastNew(t *testing.T) { // P19.3, R2
	for _, s := range append(states(), small()...) {
		for _, b := range [][]byte{row(t, s), row(t, base(), s), row(t, s, s), slices.Concat(row(t, small()[1], s), []byte("behind"))} {
			given := copyOf(b)
			x, _, err := jour.Last(given)
			y, _, _ := jour.Last(given)
			if err != nil || !alike(x, s) || !untouched(given, b) {
				t.Fatalf("Last = %+v, %v", x, err)
			}
			apart(t, x, y, given)
			overwrite(x)
			if z, _, err := jour.Last(given); err != nil || !alike(y, s) || !alike(z, s) || !untouched(given, b) {
				t.Fatalf("a state that was told, written over: others are %+v, %+v, %v", y, z, err)
			}
			overwrite(given)
			if !alike(y, s) {
				t.Fatalf("the bytes, written over: the state is %+v", y)
			}
		}
	}
	// Bytes with no record stay, too.
	for _, f := range broken(t, base()) {
		checkLast(t, f.b, api.State{}, 0)
	}
}

// TestSaveNew asks that nothing of a state that was saved is changed, or kept, and that what Load tells is new memory.
func TestSaveNew(t *testing.T) { // P19.3, R2
	for _, s := range append(states(), small()...) {
		d := keeping(t, record(t, base()))
		given := copyOf(s)
		if err := jour.Save(d, given); err != nil || !untouched(given, s) {
			t.Fatalf("Save, %v, changed %+v to %+v", err, s, given)
		}
		want := row(t, base(), s)
		overwrite(given)
		checkDisk(t, d, want, false)
		x, err := jour.Load(d)
		y, _ := jour.Load(d)
		if err != nil || !alike(x, s) {
			t.Fatalf("Load = %+v, %v", x, err)
		}
		apart(t, x, y)
		overwrite(x)
		if checkDisk(t, d, want, false); !alike(y, s) {
			t.Fatalf("a state that was told, written over: another one is %+v", y)
		}
		d.Add([]byte("behind"))
		checkLoad(t, d, s, want)
		d.Cut(0)
		d.Add(bytes.Repeat([]byte{99}, len(want)))
		if !alike(y, s) {
			t.Fatalf("the disk, written over: the state is %+v", y)
		}
	}
	for _, s := range small() {
		given := copyOf(s)
		for _, n := range []int{0, 1, 9} {
			d := disk.New()
			d.Fuse(n)
			jour.Save(d, given)
			jour.Save(d, given)
			jour.Save(nil, given)
			if !untouched(given, s) {
				t.Fatalf("Save changed %+v to %+v", s, given)
			}
		}
	}
}

// TestApart asks that what is done to one disk changes no other one.
func TestApart(t *testing.T) { // P19.2, P19.3
	l := small()
	a, b, c := disk.New(), disk.New(), disk.New()
	checkSave(t, a, l[0], nil, row(t, l[0]), false)
	checkSave(t, b, l[1], nil, row(t, l[1]), false)
	checkSave(t, a, l[2], nil, row(t, l[0], l[2]), false)
	checkLoad(t, b, l[1], row(t, l[1]))
	checkLoad(t, a, l[2], row(t, l[0], l[2]))
	checkLoad(t, c, api.State{}, nil)
	checkLoad(t, disk.New(), api.State{}, nil)
}

// TestAnyBytes asks of any bytes, sealed and not, that Last ends: P1.
func TestAnyBytes(t *testing.T) {
	r := rand.New(rand.NewSource(5))
	for range 20000 {
		b := make([]byte, r.Intn(1<<r.Intn(10)))
		r.Read(b)
		for i := range b {
			if r.Intn(2) == 0 {
				b[i] &= 15
			}
		}
		switch r.Intn(4) {
		case 0:
			b = sealed(b)
		case 1:
			b = framed(b)
		case 2:
			b = sealed(number(int(r.Uint64())>>r.Intn(64)), b)
		}
		s, n, err := jour.Last(b)
		if n > len(b) || (n == 0) != (err == api.ErrNone) || (n > 0) != local.May(s) {
			t.Fatalf("Last(%v) = %+v, %d, %v", few(b), s, n, err)
		}
		d := keeping(t, b)
		checkLoad(t, d, s, b[:n])
	}
	// A length at each edge of what there is, and at each edge of the numbers.
	whole := record(t, base())
	for extra := range 30 {
		b := append(slices.Clone(whole), make([]byte, extra)...)
		for n := -40; n < 40; n++ {
			for _, at := range []int{0, math.MaxInt32, math.MinInt32, math.MaxInt64 - 39, math.MinInt64 + 40, len(whole), extra} {
				if n > 0 && at+n < at || n < 0 && at+n > at {
					continue
				}
				checkLast(t, slices.Concat(whole, number(at+n), b), base(), len(whole))
			}
		}
	}
}

// TestVeryLong asks that a very long row of records ends, of small ones and of large ones, and one of other bytes: P1.
func TestVeryLong(t *testing.T) {
	l := small()
	few := row(t, l...)
	b := bytes.Repeat(few, 1<<15)
	end := l[len(l)-1]
	if s, n, err := jour.Last(b); n != len(b) {
		t.Fatalf("%d bytes of %d are whole", n, len(b))
	} else {
		checkTold(t, s, err, end, n)
	}
	if s, n, err := jour.Last(b[:len(b)-1]); n != len(b)-len(record(t, end)) {
		t.Fatalf("%d bytes of %d are whole", n, len(b))
	} else {
		checkTold(t, s, err, l[len(l)-2], n)
	}
	d := keeping(t, append(b, 7))
	checkLoad(t, d, end, b)
	checkSave(t, d, base(), nil, slices.Concat(b, record(t, base())), false)
	big := sized(t, 1<<20)
	b = bytes.Repeat(record(t, big), 8)
	checkLast(t, b, big, len(b))
	for _, x := range []byte{0, 1, 2, 127, 128, 255} {
		b := bytes.Repeat([]byte{x}, 1<<24)
		if s, n, err := jour.Last(b); n != 0 || err != api.ErrNone || !reflect.ValueOf(s).IsZero() {
			t.Fatalf("of %d, over and over: %d, %v", x, n, err)
		}
		// All of them sealed, of the right length.
		b = framed(b[:1<<22])
		if s, n, err := jour.Last(b); n != 0 || err != api.ErrNone || !reflect.ValueOf(s).IsZero() {
			t.Fatalf("of a record of %d, over and over: %d, %v", x, n, err)
		}
	}
	// Many lengths that are just too great, one behind the other.
	checkLast(t, bytes.Repeat([]byte{254, 255, 255, 127}, 1<<20), api.State{}, 0)
}

// TestAnyStates asks of states of any fields that the calls end, and that Record and Save refuse just those that may not be: P1.
func TestAnyStates(t *testing.T) {
	r := rand.New(rand.NewSource(6))
	may := 0
	for range 6000 {
		l := append(small(), base(), filled(3, 3))
		if r.Intn(4) == 0 {
			l = oddStates()
		}
		s := copyOf(l[r.Intn(len(l))])
		for range r.Intn(3) {
			n := []int{math.MinInt, -1, 0, 1, 2, 3, 8, 9, 64, 1000, 1001, 1000000, 1000001, math.MaxInt}[r.Intn(14)]
			switch r.Intn(7) {
			case 0:
				s.R = n
			case 1:
				s.Count = n
			case 2:
				s.Clock = n
			case 3:
				s.Epoch = n
			case 4:
				s.K.Star[r.Intn(8)] = n
			case 5:
				s.K = know.With(s.K, strings.Repeat("q", r.Intn(10)), api.Ver{R: r.Intn(9), C: n})
			case 6:
				s.F = filters()[r.Intn(len(filters()))]
			}
		}
		d := disk.New()
		b, err := jour.Record(s)
		if !local.May(s) {
			if err != api.ErrArg || len(b) > 0 {
				t.Fatalf("Record = %v, %v, want %v", few(b), err, api.ErrArg)
			}
			checkSave(t, d, s, api.ErrArg, nil, false)
			continue
		}
		may++
		checkRecord(t, s)
		checkSave(t, d, s, nil, record(t, s), false)
		checkLoad(t, d, s, record(t, s))
	}
	if may < 1500 || may > 5000 {
		t.Errorf("%d could be", may)
	}
}

// TestHuge asks of states with filters far larger, or deeper, than may be, and with very many items, that the calls end: P1.
func TestHuge(t *testing.T) {
	// It has far more parts than can be gone through, as its Kids share memory.
	bush, deep := star, star
	for range 60 {
		bush = and(bush, bush)
	}
	for range 1 << 20 {
		deep = not(deep)
	}
	for _, s := range []api.State{empty(1, bush), empty(1, deep), empty(1, not(bush)), empty(1, or(slices.Repeat([]api.Pred{star}, 1<<20)...)), filled(1000, 1000)} {
		if b, err := jour.Record(s); err != api.ErrArg || len(b) > 0 {
			t.Fatalf("Record = %v, %v", few(b), err)
		}
		checkSave(t, disk.New(), s, api.ErrArg, nil, false)
		checkSave(t, fallen(t, nil), s, api.ErrArg, nil, true)
		if err := jour.Save(nil, s); err != api.ErrArg {
			t.Fatalf("Save of a nil disk: %v", err)
		}
	}
}

// roomy is v in memory of its own, with room behind all its lists, in which something stands.
func roomy(v reflect.Value) reflect.Value {
	w := reflect.New(v.Type()).Elem()
	switch v.Kind() {
	case reflect.Struct:
		for i := range v.NumField() {
			w.Field(i).Set(roomy(v.Field(i)))
		}
	case reflect.Slice:
		w.Set(reflect.MakeSlice(v.Type(), v.Len()+3, v.Len()+3))
		for i := range w.Len() {
			if i < v.Len() {
				w.Index(i).Set(roomy(v.Index(i)))
			} else {
				scribble(w.Index(i))
			}
		}
		w.SetLen(v.Len())
	default:
		w.Set(v)
	}
	return w
}

// copyOf is v in memory of its own, with room behind all its lists.
func copyOf[T any](v T) T {
	if b, ok := any(v).([]byte); ok {
		return any(append(slices.Clip(slices.Clone(b)), 'o', 'v', 'e', 'r')[:len(b)]).(T)
	}
	return roomy(reflect.ValueOf(v)).Interface().(T)
}

// scribble writes over all of v, what stands behind its lists, too.
func scribble(v reflect.Value) {
	switch v.Kind() {
	case reflect.Struct:
		for i := range v.NumField() {
			scribble(v.Field(i))
		}
	case reflect.Slice:
		for i := range v.Cap() {
			scribble(v.Slice(0, v.Cap()).Index(i))
		}
	case reflect.Array:
		for i := range v.Len() {
			scribble(v.Index(i))
		}
	case reflect.Int:
		v.SetInt(99)
	case reflect.Uint8:
		v.SetUint(^v.Uint() & 255)
	case reflect.String:
		v.SetString("over")
	case reflect.Complex128:
		v.SetComplex(99)
	case reflect.Bool:
		v.SetBool(true)
	}
}

// overwrite writes over all that v has.
func overwrite[T any](v T) { scribble(reflect.ValueOf(&v).Elem()) }

// places puts where each element of each list of v stands, behind their lengths, too, behind l.
func places(l []uintptr, v reflect.Value) []uintptr {
	switch v.Kind() {
	case reflect.Struct:
		for i := range v.NumField() {
			l = places(l, v.Field(i))
		}
	case reflect.Slice:
		v = v.Slice(0, v.Cap())
		for i := range v.Len() {
			l = places(append(l, v.Index(i).Addr().Pointer()), v.Index(i))
		}
	}
	return l
}

// apart asks that no place in memory is told twice.
func apart(t *testing.T, all ...any) {
	t.Helper()
	var l []uintptr
	for _, x := range all {
		l = places(l, reflect.ValueOf(x))
	}
	slices.Sort(l)
	if len(slices.Compact(slices.Clone(l))) != len(l) {
		t.Fatal("two lists share memory")
	}
}

// alikeValues tells whether both are alike: nil and empty are one, and -0 is 0; or, strictly, written alike, with what stands behind their lists.
func alikeValues(a, b reflect.Value, strict bool) bool {
	switch a.Kind() {
	case reflect.Struct:
		for i := range a.NumField() {
			if !alikeValues(a.Field(i), b.Field(i), strict) {
				return false
			}
		}
		return true
	case reflect.Slice:
		if a.Len() != b.Len() {
			return false
		}
		if strict {
			a, b = a.Slice(0, a.Cap()), b.Slice(0, b.Cap())
		}
		for i := range a.Len() {
			if !alikeValues(a.Index(i), b.Index(i), strict) {
				return false
			}
		}
		return true
	case reflect.Complex128:
		bits := func(c complex128) [2]uint64 { return [2]uint64{math.Float64bits(real(c)), math.Float64bits(imag(c))} }
		return bits(a.Complex()) == bits(b.Complex()) || !strict && a.Complex() == b.Complex()
	}
	return a.Interface() == b.Interface()
}

// alike tells whether both are alike.
func alike(a, b api.State) bool { return alikeValues(reflect.ValueOf(a), reflect.ValueOf(b), false) }

// untouched tells whether v is what copyOf told of was, behind all its lists, too.
func untouched[T any](v, was T) bool {
	want := copyOf(was)
	if b, ok := any(v).([]byte); ok {
		w := any(want).([]byte)
		return bytes.Equal(b[:len(w)+4], w[:len(w)+4])
	}
	return alikeValues(reflect.ValueOf(v), reflect.ValueOf(want), true)
}
