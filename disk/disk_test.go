package disk_test

import (
	"bytes"
	"math"
	"math/rand"
	"slices"
	"strings"
	"testing"

	"gallipot/api"
	"gallipot/disk"
)

// deed is one of the calls that change a disk.
type deed struct {
	call string
	b    []byte
	n    int
}

func add(s string) deed { return deed{call: "Add", b: []byte(s)} }
func fuse(n int) deed   { return deed{call: "Fuse", n: n} }
func cut(n int) deed    { return deed{call: "Cut", n: n} }

var up = deed{call: "Up"}

// do does x to d.
func do(d *disk.Disk, x deed) error {
	switch x.call {
	case "Add":
		return d.Add(x.b)
	case "Fuse":
		return d.Fuse(x.n)
	case "Cut":
		return d.Cut(x.n)
	}
	d.Up()
	return nil
}

// sheet is a disk as the chapter's sentences read, a byte at a time; its fuse burns down by one with each.
type sheet struct {
	text string
	// fuse has one number, or none.
	fuse []int
	down bool
}

// spent tells whether no byte more gets there.
func (s *sheet) spent() bool { return len(s.fuse) > 0 && s.fuse[0] == 0 }

// do tells the error of x.
func (s *sheet) do(x deed) error {
	switch {
	case x.call == "Up":
		s.fuse, s.down = nil, false
	case s.down:
		return api.ErrDown
	case x.call == "Add":
		for i := 0; i < len(x.b) && !s.spent(); i++ {
			s.text += string(x.b[i : i+1])
			for j := range s.fuse {
				s.fuse[j]--
			}
		}
		if s.spent() {
			s.fuse, s.down = nil, true
			return api.ErrDown
		}
	case x.n < 0, x.call == "Cut" && x.n > len(s.text):
		return api.ErrArg
	case x.call == "Fuse":
		s.fuse = []int{x.n}
	case x.call == "Cut":
		s.text = s.text[:x.n]
	}
	return nil
}

// few is how much of s a failure shows.
func few(s string) string { return s[:min(len(s), 60)] }

// check asks that d keeps those bytes, and whether it is down.
func check(t *testing.T, d *disk.Disk, want string, down bool) {
	t.Helper()
	if got := string(d.Bytes()); got != want || d.Down() != down {
		t.Fatalf("%d bytes %q, down %v; want %d bytes %q, down %v", len(got), few(got), d.Down(), len(want), few(want), down)
	}
}

// step asks for the error of x, and for what d keeps behind it, and whether it is down then.
func step(t *testing.T, d *disk.Disk, x deed, err error, want string, down bool) {
	t.Helper()
	if got := do(d, x); got != err {
		t.Fatalf("%s of %q, %d: %v, want %v", x.call, few(string(x.b)), x.n, got, err)
	}
	check(t, d, want, down)
}

// manyBytes is how many bytes burnt tries a fuse with.
const manyBytes = 300

// burnt tells how many bytes d's fuse has, in that it adds single ones; -1, if so many bytes don't burn it. A disk that is up with a fuse of 0 is told by an Add of none.
func burnt(d *disk.Disk) int {
	if d.Add(nil) != nil {
		return 0
	}
	for n := 1; n <= manyBytes; n++ {
		if d.Add([]byte{'x'}) != nil {
			return n
		}
	}
	return -1
}

// checkFuse asks that d, which is up, has such a fuse; none, if it is -1.
func checkFuse(t *testing.T, d *disk.Disk, want int) {
	t.Helper()
	kept := string(d.Bytes())
	if got := burnt(d); got != want {
		t.Fatalf("a fuse of %d bytes, want %d", got, want)
	}
	if want < 0 {
		want = manyBytes
	}
	if got := string(d.Bytes()); got != kept+strings.Repeat("x", want) {
		t.Fatalf("what was added to %q, one by one, is %q", few(kept), few(got))
	}
}

// disks tells a disk that keeps s, up, with such a fuse (none, if it is -1). Of no bytes it is as New tells it: an Add of none may leave another one.
func disks(t *testing.T, s string, n int) *disk.Disk {
	t.Helper()
	d := disk.New()
	if s != "" {
		step(t, d, add(s), nil, s, false)
	}
	if n >= 0 {
		step(t, d, fuse(n), nil, s, false)
	}
	return d
}

// fallen tells a disk that keeps s, and is down.
func fallen(t *testing.T, s string) *disk.Disk {
	t.Helper()
	d := disks(t, s, 0)
	step(t, d, add("over"), api.ErrDown, s, true)
	return d
}

// letters are n bytes, of which those beside each other aren't alike.
func letters(n int) string {
	b := make([]byte, n)
	for i := range b {
		b[i] = byte('a' + i%26)
	}
	return string(b)
}

// texts are bytes to be added: none, one, many, of any values.
func texts() []string {
	return []string{"", "a", "\x00", "\xff", "ab", "\x00\x00\x00", "gallipot", "a\x00b\xff\x80", letters(7), letters(64), letters(1000), strings.Repeat("\x00", 5000), strings.Repeat("\xff\x00", 1<<16)}
}

// numbers are numbers from the least to the greatest.
func numbers() []int {
	return []int{math.MinInt, math.MinInt + 1, math.MinInt32 - 1, math.MinInt32, -1000, -2, -1, 0, 1, 2, 3, 4, 5, 6, 7, 8, 9, 100, math.MaxInt32, math.MaxInt32 + 1, math.MaxUint32, math.MaxUint32 + 1, math.MaxInt - 1, math.MaxInt}
}

func TestNew(t *testing.T) { // P18.1
	check(t, disk.New(), "", false)
	checkFuse(t, disk.New(), -1)
	d := disk.New()
	if d == nil || d == disk.New() {
		t.Fatal("no disk, or the same one")
	}
	step(t, d, up, nil, "", false)
	step(t, d, cut(0), nil, "", false)
	step(t, d, cut(1), api.ErrArg, "", false)
	checkFuse(t, d, -1)
}

// TestNewApart asks that what is done to one disk changes no other one.
func TestNewApart(t *testing.T) { // P18.1, P18.2
	a, b, c := disk.New(), disk.New(), disk.New()
	step(t, a, add("ab"), nil, "ab", false)
	step(t, b, add("cde"), nil, "cde", false)
	step(t, b, fuse(1), nil, "cde", false)
	step(t, a, add("fg"), nil, "abfg", false)
	step(t, b, add("h"), api.ErrDown, "cdeh", true)
	check(t, a, "abfg", false)
	check(t, c, "", false)
	checkFuse(t, a, -1)
	checkFuse(t, c, -1)
	check(t, b, "cdeh", true)
	check(t, disk.New(), "", false)
}

func TestAddWithoutFuse(t *testing.T) { // P18.1
	for _, s := range texts() {
		d := disk.New()
		step(t, d, add(s), nil, s, false)
		step(t, d, deed{call: "Add"}, nil, s, false)
		step(t, d, add(""), nil, s, false)
		step(t, d, add("z"), nil, s+"z", false)
		step(t, d, add(s), nil, s+"z"+s, false)
		checkFuse(t, d, -1)
	}
	d, all := disk.New(), ""
	for n := range 400 {
		s := letters(n % 37)
		all += s
		step(t, d, add(s), nil, all, false)
	}
}

// TestAddWithFuse adds 0 to 12 bytes with a fuse of 0 to 14, to what keeps none, some and many.
func TestAddWithFuse(t *testing.T) { // P18.1, P18.3
	for _, kept := range []string{"", "Q", "QRS", letters(100)} {
		for n := range 15 {
			for long := range 13 {
				s := letters(long)
				d := disks(t, kept, n)
				if long < n {
					step(t, d, add(s), nil, kept+s, false)
					checkFuse(t, d, n-long)
					continue
				}
				step(t, d, add(s), api.ErrDown, kept+s[:n], true)
				step(t, d, up, nil, kept+s[:n], false)
				checkFuse(t, d, -1)
			}
		}
	}
}

func TestAddOfManyWithFuse(t *testing.T) { // P18.1, P18.3
	for _, s := range texts() {
		for _, n := range []int{0, 1, len(s) / 2, len(s) - 1, len(s), len(s) + 1, len(s) + 2, 2*len(s) + 1, math.MaxInt32, math.MaxInt} {
			if n < 0 {
				continue
			}
			d := disks(t, "kept", n)
			if n <= len(s) {
				step(t, d, add(s), api.ErrDown, "kept"+s[:n], true)
			} else {
				step(t, d, add(s), nil, "kept"+s, false)
			}
		}
	}
}

// TestAddOfNone asks that an Add of none burns a fuse of 0 alone.
func TestAddOfNone(t *testing.T) { // P18.1
	for _, b := range [][]byte{nil, {}} {
		for _, kept := range []string{"", "ab"} {
			none := deed{call: "Add", b: b}
			d := disks(t, kept, 0)
			step(t, d, none, api.ErrDown, kept, true)
			step(t, d, none, api.ErrDown, kept, true)
			step(t, d, up, nil, kept, false)
			step(t, d, none, nil, kept, false)
			step(t, d, fuse(1), nil, kept, false)
			step(t, d, none, nil, kept, false)
			step(t, d, none, nil, kept, false)
			step(t, d, add("c"), api.ErrDown, kept+"c", true)
		}
	}
}

// TestFuseBurnsDown burns each fuse of up to 20 bytes down by calls of Add of each length, the last one of just as many bytes as are left, or of more.
func TestFuseBurnsDown(t *testing.T) { // P18.1, P18.3
	for n := range 21 {
		for long := 1; long < 9; long++ {
			d := disks(t, "k", n)
			left, all := n, "k"
			for left > long {
				all += letters(long)
				step(t, d, add(letters(long)), nil, all, false)
				step(t, d, add(""), nil, all, false)
				left -= long
			}
			step(t, d, add(letters(long)), api.ErrDown, all+letters(long)[:left], true)
			step(t, d, add(letters(long)), api.ErrDown, all+letters(long)[:left], true)
		}
	}
	d := disks(t, "", 6)
	step(t, d, add("a"), nil, "a", false)
	step(t, d, add(""), nil, "a", false)
	step(t, d, add("bcd"), nil, "abcd", false)
	step(t, d, add("e"), nil, "abcde", false)
	step(t, d, add("fg"), api.ErrDown, "abcdef", true)
}

// TestDown asks that a disk that is down answers ErrDown, at any argument, and that nothing changes.
func TestDown(t *testing.T) { // P18.1, R1
	for _, kept := range []string{"", "abc", letters(50)} {
		d := fallen(t, kept)
		for _, n := range append(numbers(), len(kept), len(kept)-1, len(kept)+1) {
			step(t, d, fuse(n), api.ErrDown, kept, true)
			step(t, d, cut(n), api.ErrDown, kept, true)
		}
		for _, s := range texts() {
			step(t, d, add(s), api.ErrDown, kept, true)
		}
		step(t, d, deed{call: "Add"}, api.ErrDown, kept, true)
		step(t, d, up, nil, kept, false)
		// None of what was handed to Fuse is there.
		checkFuse(t, d, -1)
	}
}

// TestDownByEachWay asks the same of disks whose Add had just as many bytes as the fuse, more, and none.
func TestDownByEachWay(t *testing.T) { // P18.1
	for _, c := range []struct {
		fuse      int
		add, want string
	}{{0, "", ""}, {0, "abc", ""}, {1, "abc", "a"}, {2, "abc", "ab"}, {3, "abc", "abc"}} {
		d := disks(t, "Q", c.fuse)
		want := "Q" + c.want
		step(t, d, add(c.add), api.ErrDown, want, true)
		for _, x := range []deed{add(""), add("d"), fuse(-1), fuse(0), fuse(9), cut(-1), cut(0), cut(1), cut(9), {call: "Add"}} {
			step(t, d, x, api.ErrDown, want, true)
		}
		step(t, d, up, nil, want, false)
		step(t, d, add("ef"), nil, want+"ef", false)
		checkFuse(t, d, -1)
	}
}

func TestFuseNegative(t *testing.T) { // P18.1
	for _, n := range numbers() {
		if n >= 0 {
			continue
		}
		for was := -1; was < 6; was++ {
			d := disks(t, "ab", was)
			step(t, d, fuse(n), api.ErrArg, "ab", false)
			step(t, d, fuse(n), api.ErrArg, "ab", false)
			checkFuse(t, d, was)
		}
		d := disk.New()
		step(t, d, fuse(n), api.ErrArg, "", false)
		checkFuse(t, d, -1)
		d = disks(t, "", 5)
		step(t, d, add("ab"), nil, "ab", false)
		step(t, d, fuse(n), api.ErrArg, "ab", false)
		checkFuse(t, d, 3)
	}
}

// TestFuseInPlace gives each fuse of up to 8 bytes in the place of each other one, and of none.
func TestFuseInPlace(t *testing.T) { // P18.1
	for was := -1; was < 9; was++ {
		for n := range 9 {
			d := disks(t, "ab", was)
			step(t, d, fuse(n), nil, "ab", false)
			checkFuse(t, d, n)
			d = disks(t, "ab", was+5)
			step(t, d, add("cde"), nil, "abcde", false)
			step(t, d, fuse(n), nil, "abcde", false)
			checkFuse(t, d, n)
		}
	}
}

func TestFuseVeryGreat(t *testing.T) { // P18.1
	for _, n := range []int{math.MaxInt, math.MaxInt - 1, math.MaxUint32 + 1, math.MaxUint32, math.MaxInt32 + 1, math.MaxInt32, math.MaxInt32 - 1, 1 << 20} {
		d := disks(t, "", n)
		all := ""
		for _, s := range texts() {
			all += s
			step(t, d, add(s), nil, all, false)
		}
		step(t, d, fuse(2), nil, all, false)
		step(t, d, fuse(n), nil, all, false)
		step(t, d, add("abc"), nil, all+"abc", false)
		step(t, d, fuse(2), nil, all+"abc", false)
		checkFuse(t, d, 2)
	}
	s := letters(1 << 20)
	d := disks(t, "", 1<<20+1)
	step(t, d, add(s), nil, s, false)
	step(t, d, add("ab"), api.ErrDown, s+"a", true)
}

func TestUp(t *testing.T) { // P18.1
	for _, kept := range []string{"", "a", "abc"} {
		for n := -1; n < 5; n++ {
			d := disks(t, kept, n)
			step(t, d, up, nil, kept, false)
			checkFuse(t, d, -1)
			d = disks(t, kept, n)
			step(t, d, up, nil, kept, false)
			step(t, d, up, nil, kept, false)
			step(t, d, fuse(3), nil, kept, false)
			checkFuse(t, d, 3)
		}
		d := fallen(t, kept)
		step(t, d, up, nil, kept, false)
		checkFuse(t, d, -1)
		d = fallen(t, kept)
		step(t, d, up, nil, kept, false)
		step(t, d, up, nil, kept, false)
		step(t, d, fuse(1), nil, kept, false)
		step(t, d, add("de"), api.ErrDown, kept+"d", true)
		step(t, d, up, nil, kept+"d", false)
		step(t, d, cut(0), nil, "", false)
	}
}

func TestCut(t *testing.T) { // P18.1
	for long := range 20 {
		kept := letters(long)
		for n := -2; n < 25; n++ {
			d := disks(t, kept, -1)
			if n < 0 || n > long {
				step(t, d, cut(n), api.ErrArg, kept, false)
				step(t, d, add("YZ"), nil, kept+"YZ", false)
				continue
			}
			step(t, d, cut(n), nil, kept[:n], false)
			// What was cut off doesn't come back.
			step(t, d, cut(n+1), api.ErrArg, kept[:n], false)
			step(t, d, cut(long+1), api.ErrArg, kept[:n], false)
			step(t, d, cut(n), nil, kept[:n], false)
			step(t, d, add("YZ"), nil, kept[:n]+"YZ", false)
			step(t, d, cut(n+1), nil, kept[:n]+"Y", false)
			checkFuse(t, d, -1)
		}
	}
}

func TestCutFarOut(t *testing.T) { // P18.1
	for _, kept := range []string{"", "abc", letters(1000)} {
		d := disks(t, kept, -1)
		for _, n := range append(numbers(), len(kept)+1, -len(kept)-1) {
			if n < 0 || n > len(kept) {
				step(t, d, cut(n), api.ErrArg, kept, false)
			}
		}
		step(t, d, cut(len(kept)), nil, kept, false)
		step(t, d, cut(0), nil, "", false)
		step(t, d, cut(0), nil, "", false)
		step(t, d, cut(1), api.ErrArg, "", false)
	}
	s := letters(1 << 20)
	d := disks(t, s, -1)
	for _, n := range []int{1 << 20, 1<<20 - 1, 1 << 19, 77777, 3, 0} {
		step(t, d, cut(n), nil, s[:n], false)
	}
}

// TestCutLeavesFuse asks that a Cut, and one that is refused, too, leave the fuse as it is.
func TestCutLeavesFuse(t *testing.T) { // P18.1
	for n := -1; n < 8; n++ {
		for _, at := range []int{math.MinInt, -1, 0, 1, 3, 4, 5, math.MaxInt} {
			d := disks(t, "abcd", n)
			err, want := error(api.ErrArg), "abcd"
			if at >= 0 && at <= 4 {
				err, want = nil, "abcd"[:at]
			}
			step(t, d, cut(at), err, want, false)
			step(t, d, cut(at), err, want, false)
			checkFuse(t, d, n)
		}
	}
	d := disks(t, "ab", 5)
	step(t, d, add("cde"), nil, "abcde", false)
	step(t, d, cut(0), nil, "", false)
	checkFuse(t, d, 2)
}

// TestExample is the chapter's own.
func TestExample(t *testing.T) { // P18.1, P18.3
	d := disk.New()
	step(t, d, fuse(2), nil, "", false)
	step(t, d, add("abc"), api.ErrDown, "ab", true)
	step(t, d, up, nil, "ab", false)
}

// TestAllDeeds does all rows of up to four deeds, and held against the chapter's sentences asks in the end for the fuse, too.
func TestAllDeeds(t *testing.T) { // P18.1, P18.3
	deeds := []deed{add(""), add("a"), add("bcd"), fuse(-1), fuse(0), fuse(1), fuse(2), fuse(4), up, cut(-1), cut(0), cut(1), cut(2), cut(4)}
	var all func(row []deed)
	all = func(row []deed) {
		checkRow(t, row)
		if len(row) < 4 {
			for _, x := range deeds {
				all(append(slices.Clip(row), x))
			}
		}
	}
	all(nil)
}

// checkRow does row to a new disk, and asks that it is as the chapter's sentences read.
func checkRow(t *testing.T, row []deed) {
	t.Helper()
	d, s := disk.New(), &sheet{}
	for i, x := range row {
		got, want := do(d, x), s.do(x)
		if got != want || d.Down() != s.down || string(d.Bytes()) != s.text {
			t.Fatalf("deed %d of %v: %v, %q, down %v; want %v, %q, down %v", i, row, got, d.Bytes(), d.Down(), want, s.text, s.down)
		}
	}
	if s.down {
		return
	}
	want := -1
	if len(s.fuse) > 0 {
		want = s.fuse[0]
	}
	checkFuse(t, d, want)
}

// drawn is a deed drawn at random, for a disk that keeps so many bytes.
func drawn(r *rand.Rand, kept int) deed {
	b := make([]byte, r.Intn(20))
	r.Read(b)
	switch r.Intn(16) {
	case 0, 1, 2:
		return fuse(r.Intn(60))
	case 3:
		return fuse(numbers()[r.Intn(len(numbers()))])
	case 4, 5:
		return up
	case 6:
		return cut(kept - r.Intn(9) + 1)
	case 7:
		return cut(r.Intn(kept+3) - 1)
	case 8:
		return cut(numbers()[r.Intn(len(numbers()))])
	}
	return deed{call: "Add", b: b}
}

func TestDrawnDeeds(t *testing.T) { // P18.1, P18.3
	r := rand.New(rand.NewSource(18))
	for range 1500 {
		d, s := disk.New(), &sheet{}
		for range 200 {
			x := drawn(r, len(s.text))
			step(t, d, x, s.do(x), s.text, s.down)
		}
	}
}

// TestWhatStays asks, with no second reading, that what stands there stays but for a Cut, and that what a write adds is its beginning, all of it if it wasn't cut off.
func TestWhatStays(t *testing.T) { // P18.3
	r := rand.New(rand.NewSource(3))
	for range 500 {
		d := disk.New()
		for range 200 {
			was, down := d.Bytes(), d.Down()
			x := drawn(r, len(was))
			err := do(d, x)
			now := d.Bytes()
			switch {
			case x.call == "Cut" && err == nil:
				if len(now) != x.n || !bytes.HasPrefix(was, now) {
					t.Fatalf("Cut of %q to %d: %q", was, x.n, now)
				}
			case x.call == "Add" && !down:
				if !bytes.HasPrefix(now, was) || !bytes.HasPrefix(x.b, now[len(was):]) || err == nil && len(now) != len(was)+len(x.b) || (err != nil) != d.Down() {
					t.Fatalf("Add of %q to %q: %q, %v", x.b, was, now, err)
				}
			default:
				if !bytes.Equal(now, was) {
					t.Fatalf("%s to %q: %q, %v", x.call, was, now, err)
				}
			}
		}
	}
}

// whole are b with all that stands behind them.
func whole(b []byte) []byte { return b[:cap(b)] }

// overwrite writes over b, and all that stands behind them.
func overwrite(b []byte) {
	for i := range whole(b) {
		whole(b)[i] ^= 85
	}
}

// roomy are the bytes of s in memory of their own, with room behind them, in which something stands.
func roomy(s string) []byte {
	return append([]byte(s), 7, 77, 177, 7, 77, 177, 7, 77, 177)[:len(s)]
}

// TestHandedIn asks that nothing of what is handed to Add is changed, or kept: without a fuse, with one that lets all of it get there, and with one that cuts it off.
func TestHandedIn(t *testing.T) { // P18.2, R2
	for _, s := range texts() {
		for _, kept := range []string{"", "Q", letters(40)} {
			for _, n := range []int{-1, 0, 1, 2, len(s) / 2, len(s), len(s) + 1, len(s) + 9} {
				d := disks(t, kept, n)
				b := roomy(s)
				was := slices.Clone(whole(b))
				d.Add(b)
				if !bytes.Equal(whole(b), was) {
					t.Fatalf("Add changed %q to %q", few(string(was)), few(string(whole(b))))
				}
				told, down := string(d.Bytes()), d.Down()
				overwrite(b)
				check(t, d, told, down)
				want := slices.Clone(whole(b))
				d.Up()
				if step(t, d, add("YZ"), nil, told+"YZ", false); !bytes.Equal(whole(b), want) {
					t.Fatal("an Add behind it wrote over what was handed in ahead of it")
				}
				d.Cut(1)
				d.Add([]byte("WX"))
				if overwrite(b); string(d.Bytes()) != (told + "YZ")[:1]+"WX" {
					t.Fatalf("%q has what was handed in", d.Bytes())
				}
			}
		}
	}
}

// TestHandedInWhenDown asks the same of a disk that is down.
func TestHandedInWhenDown(t *testing.T) { // P18.2, R2
	d := fallen(t, "ab")
	b := roomy("cdefg")
	was := slices.Clone(whole(b))
	if d.Add(b); !bytes.Equal(whole(b), was) {
		t.Fatalf("Add changed %q to %q", was, whole(b))
	}
	overwrite(b)
	check(t, d, "ab", true)
}

// TestTold writes over what Bytes told, and all behind it, and asks that the disk stays, as does what Bytes told another time.
func TestTold(t *testing.T) { // P18.2, R2
	for _, s := range texts() {
		for _, more := range []string{"", "a", letters(30)} {
			d := disks(t, s, -1)
			step(t, d, add(more), nil, s+more, false)
			checkTold(t, d)
			step(t, d, fuse(1), nil, s+more, false)
			checkTold(t, d)
			step(t, d, cut(len(s)), nil, s, false)
			checkTold(t, d)
			step(t, d, add("bc"), api.ErrDown, s+"b", true)
			checkTold(t, d)
			step(t, d, up, nil, s+"b", false)
			checkTold(t, d)
		}
	}
	checkTold(t, disk.New())
}

// checkTold asks that what d's Bytes tells is new memory.
func checkTold(t *testing.T, d *disk.Disk) {
	t.Helper()
	first, second := d.Bytes(), d.Bytes()
	want := string(first)
	overwrite(first)
	if string(second) != want {
		t.Fatalf("two calls of Bytes told the same memory of %q", few(want))
	}
	overwrite(append(second, "behind it"...))
	overwrite(second)
	check(t, d, want, d.Down())
}

// TestToldRoom writes behind what Bytes told of what a Cut left, once more was added, and asks that the disk stays; and that what stood behind it stayed as the disk was added to.
func TestToldRoom(t *testing.T) { // P18.2, R2
	for long := range 20 {
		for n := range long + 1 {
			s := letters(long)
			d := disks(t, s, -1)
			step(t, d, cut(n), nil, s[:n], false)
			b := d.Bytes()
			was := slices.Clone(whole(b))
			step(t, d, add("UVWXYZ"), nil, s[:n]+"UVWXYZ", false)
			if !bytes.Equal(whole(b), was) {
				t.Fatalf("%q with what stood behind it is %q now", was, whole(b))
			}
			overwrite(append(b, "behind it"...))
			overwrite(b)
			check(t, d, s[:n]+"UVWXYZ", false)
		}
	}
}

// TestToldStays asks that what Bytes told stays as it was told, whatever is done behind it.
func TestToldStays(t *testing.T) { // P18.2, R2
	r := rand.New(rand.NewSource(2))
	for range 300 {
		d := disk.New()
		var told [][]byte
		var want []string
		for range 60 {
			b := d.Bytes()
			told, want = append(told, b), append(want, string(b))
			do(d, drawn(r, len(b)))
		}
		for i := range told {
			if string(told[i]) != want[i] {
				t.Fatalf("%q was told, and is %q now", want[i], told[i])
			}
		}
	}
	d := disks(t, "abcdef", -1)
	b := d.Bytes()
	for _, x := range []deed{add("gh"), cut(3), add("XYZ"), fuse(2), add("UVW"), up, cut(0), add("123456789")} {
		if do(d, x); string(b) != "abcdef" {
			t.Fatalf("behind %s it is %q", x.call, b)
		}
	}
}

// TestAddOfTold adds what Bytes told, and pieces of it, to the disk that told it.
func TestAddOfTold(t *testing.T) { // P18.1, P18.2
	d := disks(t, "abc", -1)
	b := d.Bytes()
	step(t, d, deed{call: "Add", b: b}, nil, "abcabc", false)
	step(t, d, deed{call: "Add", b: b[1:2]}, nil, "abcabcb", false)
	step(t, d, fuse(4), nil, "abcabcb", false)
	step(t, d, deed{call: "Add", b: d.Bytes()}, api.ErrDown, "abcabcbabca", true)
	if overwrite(b); string(d.Bytes()) != "abcabcbabca" {
		t.Fatalf("it is %q", d.Bytes())
	}
}

// TestAnyArguments does deeds of any arguments in any order, and asks that none panics: P1.
func TestAnyArguments(t *testing.T) {
	r := rand.New(rand.NewSource(1))
	for range 300 {
		d, s := disk.New(), &sheet{}
		for range 60 {
			n := int(r.Uint64()) >> r.Intn(64)
			var b []byte
			if r.Intn(3) > 0 {
				b = make([]byte, r.Intn(1<<r.Intn(13)))
				r.Read(b)
			}
			x := deed{[]string{"Add", "Add", "Fuse", "Cut", "Up"}[r.Intn(5)], b, n}
			step(t, d, x, s.do(x), s.text, s.down)
		}
		for _, n := range numbers() {
			for _, x := range []deed{fuse(n), cut(n)} {
				step(t, d, x, s.do(x), s.text, s.down)
			}
		}
	}
	// Much at once.
	much := bytes.Repeat([]byte{0, 255, 7}, 1<<23)
	d := disk.New()
	for _, n := range []int{len(much) + 1, len(much), 1} {
		d.Fuse(n)
		if err := d.Add(much); (err == nil) != (n > len(much)) || d.Down() == (err == nil) {
			t.Fatalf("with a fuse of %d: %v", n, err)
		}
		d.Up()
	}
	if len(d.Bytes()) != 2*len(much)+1 {
		t.Fatalf("%d bytes", len(d.Bytes()))
	}
}
