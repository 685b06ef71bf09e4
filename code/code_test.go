package code_test

import (
	"bytes"
	"encoding/binary"
	"hash/crc32"
	"math"
	"math/rand"
	"slices"
	"strings"
	"testing"

	"gallipot/api"
	"gallipot/code"
)

// known is a number, and its bytes.
type known struct {
	n int
	b []byte
}

// edges are the least and the greatest numbers of each length, of both signs.
func edges() []known {
	return []known{
		{0, []byte{0}}, {-1, []byte{1}}, {1, []byte{2}}, {-2, []byte{3}}, {2, []byte{4}}, {9, []byte{18}}, {63, []byte{126}}, {-64, []byte{127}},
		{64, []byte{128, 1}}, {-65, []byte{129, 1}}, {65, []byte{130, 1}}, {-128, []byte{255, 1}}, {128, []byte{128, 2}}, {150, []byte{172, 2}}, {8191, []byte{254, 127}}, {-8192, []byte{255, 127}},
		{8192, []byte{128, 128, 1}}, {-8193, []byte{129, 128, 1}}, {16383, []byte{254, 255, 1}}, {16384, []byte{128, 128, 2}}, {1048575, []byte{254, 255, 127}}, {-1048576, []byte{255, 255, 127}},
		{1048576, []byte{128, 128, 128, 1}}, {-1048577, []byte{129, 128, 128, 1}}, {134217727, []byte{254, 255, 255, 127}}, {-134217728, []byte{255, 255, 255, 127}},
		{134217728, []byte{128, 128, 128, 128, 1}}, {-134217729, []byte{129, 128, 128, 128, 1}}, {2147483646, []byte{252, 255, 255, 255, 15}}, {-2147483647, []byte{253, 255, 255, 255, 15}},
		{2147483647, []byte{254, 255, 255, 255, 15}}, {-2147483648, []byte{255, 255, 255, 255, 15}},
	}
}

// beyond are numbers that may not be, some of which would pass for one if cut to fewer bits.
func beyond() []int {
	return []int{2147483648, -2147483649, 2147483649, -2147483650, 4294967295, 4294967296, 4294967297, -4294967295, -4294967296, -4294967297, 1 << 34, -1 << 34, 1<<40 + 1, -1<<40 + 1, 1 << 62, -1 << 62, math.MaxInt - 1, math.MaxInt, math.MinInt, math.MinInt + 1}
}

// noNumbers are bytes that begin with no number.
func noNumbers() [][]byte {
	l := [][]byte{
		// Of five bytes, but beyond the greatest one.
		{128, 128, 128, 128, 16}, {255, 255, 255, 255, 16}, {128, 128, 128, 128, 17}, {254, 255, 255, 255, 31}, {128, 128, 128, 128, 32}, {128, 128, 128, 128, 64}, {255, 255, 255, 255, 127},
		// Of six and more.
		{128, 128, 128, 128, 128, 1}, {129, 128, 128, 128, 128, 0}, {255, 255, 255, 255, 255, 0}, {255, 255, 255, 255, 143, 0}, {254, 255, 255, 255, 143, 1}, {255, 255, 255, 255, 255, 15}, {128, 128, 128, 128, 128, 128, 1}, {130, 128, 128, 128, 128, 128, 128, 128, 128, 2},
		bytes.Repeat([]byte{128}, 1000), bytes.Repeat([]byte{255}, 1<<20), append(bytes.Repeat([]byte{255}, 1<<16), 1), append(bytes.Repeat([]byte{128}, 1<<16), 0),
	}
	for _, x := range edges() {
		last := len(x.b) - 1
		for n := range x.b {
			// Cut off in its midst, or ahead of it.
			l = append(l, x.b[:n])
		}
		// Of several of which the last one is 0.
		for n := last + 1; n <= 6; n++ {
			b := append(slices.Clone(x.b), bytes.Repeat([]byte{128}, n-last)...)
			b[last] |= 128
			b[n] = 0
			l = append(l, b)
		}
	}
	return append(l, nil, []byte{})
}

// tails are what may stand behind a number or a text.
func tails() [][]byte {
	return [][]byte{nil, {0}, {1}, {127}, {128}, {255}, {9, 9}, {0, 0, 0, 0, 0}, {128, 128, 128, 128, 1}, {255, 255, 255, 255, 255, 255, 255, 255, 255}, bytes.Repeat([]byte{129}, 300)}
}

// texts are texts that may be, of any bytes.
func texts() []string {
	return []string{
		"", "a", "jar", "ab", "abcdefgh", "ABCDEFG", " ", "a b", "\x00", "\xff", "\x80", "\x00\x00", "\x00a\x00", "\xff\xff\xff\xff\xff\xff\xff\xff", "\x00\x00\x00\x00\x00\x00\x00\x00", "\x80\x81\x82\x83\x84\x85\x86\x87",
		"ä", "\xe4", "\xc3", "a\xc3", "ääää", "ä\xa4a", "\U0001f3fa", "\U0001f3fa\U0001f3fa", "\xf0\x9f\x8f", "\ufffd", "\ufeff", "\n\r\t", "1234567\x00",
	}
}

// longTexts are texts that may not be.
func longTexts() []string {
	return []string{"abcdefghi", "123456789", "\x00\x00\x00\x00\x00\x00\x00\x00\x00", "\xff\xff\xff\xff\xff\xff\xff\xff\xff", "aääää", "äääää", "abcdefghij", strings.Repeat("a", 16), strings.Repeat("a", 63), strings.Repeat("a", 64), strings.Repeat("a", 255), strings.Repeat("a", 256), strings.Repeat("b", 264), strings.Repeat("c", 1<<16+3)}
}

// noTexts are bytes that begin with no text.
func noTexts() [][]byte {
	eight := []byte("abcdefgh")
	l := [][]byte{
		// Of a number below 0, or beyond MaxText.
		{1}, {1, 'a'}, {3, 'a', 'b'}, {15, 1, 2, 3, 4, 5, 6, 7, 8}, {127}, {18, 1, 2, 3, 4, 5, 6, 7, 8, 9}, {20, 1, 2, 3, 4, 5, 6, 7, 8, 9, 10}, append([]byte{126}, make([]byte, 63)...), append([]byte{128, 1}, make([]byte, 64)...), append([]byte{128, 4}, make([]byte, 256)...),
		append([]byte{255, 255, 255, 255, 15}, eight...), append([]byte{254, 255, 255, 255, 15}, eight...), append([]byte{129, 128, 128, 128, 1}, eight...),
		// Of a number that isn't as Num tells it.
		{128, 0}, {128, 128, 0}, {130, 0, 'a'}, {132, 0, 'a', 'b'}, {132, 128, 0, 'a', 'b'}, {130, 128, 128, 128, 0, 'a'}, {130, 128, 128, 128, 16, 'a'}, {130, 128, 128, 128, 128, 0, 'a'}, {128 + 16, 0, 1, 2, 3, 4, 5, 6, 7, 8},
	}
	for n := 1; n <= 8; n++ {
		// It tells more bytes than there are.
		for m := range n {
			l = append(l, append([]byte{byte(2 * n)}, eight[:m]...))
		}
	}
	for _, b := range noNumbers() {
		l = append(l, b)
	}
	return l
}

// bodies are bytes to be sealed: of 0 to 40, and of many more, the same ones and such as are mixed.
func bodies() [][]byte {
	r := rand.New(rand.NewSource(16))
	l := [][]byte{nil, {}, {0}, {255}, {0, 0, 0, 0}, {255, 255, 255, 255}, []byte("123456789"), []byte("gallipot"), make([]byte, 1000), bytes.Repeat([]byte{255}, 1000)}
	for n := range 41 {
		l = append(l, random(r, n))
	}
	for n := 97; n < 1<<17; n = 3*n + 1 {
		l = append(l, random(r, n))
	}
	return l
}

// random are n bytes, each of any value.
func random(r *rand.Rand, n int) []byte {
	b := make([]byte, n)
	r.Read(b)
	return b
}

// wantNum is what GetNum is to tell of b.
func wantNum(b []byte) (int, int) {
	n, used := binary.Varint(b)
	if used <= 0 || n < -2147483648 || n > 2147483647 || !bytes.HasPrefix(b, binary.AppendVarint(nil, n)) || used > 1 && b[used-1] == 0 {
		return 0, 0
	}
	return int(n), used
}

// wantText is what GetText is to tell of b.
func wantText(b []byte) (string, int) {
	n, used := wantNum(b)
	if used == 0 || n < 0 || n > 8 || used+n > len(b) {
		return "", 0
	}
	return string(b[used : used+n]), used + n
}

// wantSum is what Sum is to tell of b.
func wantSum(b []byte) uint32 { return crc32.ChecksumIEEE(b) }

// wantOpen is what Open is to tell of b, and whether it is sealed.
func wantOpen(b []byte) ([]byte, bool) {
	if len(b) < 4 {
		return nil, false
	}
	body := b[:len(b)-4]
	if binary.LittleEndian.Uint32(b[len(b)-4:]) != wantSum(body) {
		return nil, false
	}
	return body, true
}

// checkNum asks that n is those bytes; none, if it may not be.
func checkNum(t *testing.T, n int, want []byte) {
	t.Helper()
	if got := code.Num(n); !bytes.Equal(got, want) {
		t.Fatalf("Num(%d) = %v, want %v", n, got, want)
	}
}

// few is how much of b a failure shows.
func few(b []byte) []byte { return b[:min(len(b), 50)] }

// checkGetNum asks for the number with which b begins.
func checkGetNum(t *testing.T, b []byte, want, wantUsed int) {
	t.Helper()
	if n, used := code.GetNum(b); n != want || used != wantUsed {
		t.Fatalf("GetNum of %d bytes, %v = %d, %d, want %d, %d", len(b), few(b), n, used, want, wantUsed)
	}
}

// checkGetText asks for the text with which b begins.
func checkGetText(t *testing.T, b []byte, want string, wantUsed int) {
	t.Helper()
	if s, used := code.GetText(b); s != want || used != wantUsed {
		t.Fatalf("GetText of %d bytes, %v = %q, %d, want %q, %d", len(b), few(b), s, used, want, wantUsed)
	}
}

// checkOpen asks that b is sealed, and what was.
func checkOpen(t *testing.T, b, want []byte) {
	t.Helper()
	if got, err := code.Open(b); err != nil || !bytes.Equal(got, want) {
		t.Fatalf("Open of %d bytes, %v = %v, %v", len(b), few(b), few(got), err)
	}
}

// checkNotSealed asks that b isn't sealed: ErrSum itself, and no bytes.
func checkNotSealed(t *testing.T, b []byte) {
	t.Helper()
	if got, err := code.Open(b); err != api.ErrSum || len(got) != 0 {
		t.Fatalf("Open of %d bytes, %v = %v, %v, want ErrSum", len(b), few(b), few(got), err)
	}
}

func TestNumAtEdges(t *testing.T) { // P16.1, P16.4
	for _, x := range edges() {
		checkNum(t, x.n, x.b)
		for _, tail := range tails() {
			checkGetNum(t, slices.Concat(x.b, tail), x.n, len(x.b))
		}
	}
}

func TestNumBeyond(t *testing.T) { // P16.1
	for _, n := range beyond() {
		checkNum(t, n, nil)
	}
	for i := range 64 {
		n := 1 << i
		for _, n := range []int{n - 1, n, n + 1, -n - 1, -n, -n + 1} {
			if n < -2147483648 || n > 2147483647 {
				checkNum(t, n, nil)
			} else {
				checkNum(t, n, binary.AppendVarint(nil, int64(n)))
			}
		}
	}
}

// TestNumLengths asks of all that has up to three bytes, and of others, that no byte but the last one is below 128, and that the last one of several isn't 0.
func TestNumLengths(t *testing.T) { // P16.1, P16.4
	check := func(n int) {
		b := code.Num(n)
		if !bytes.Equal(b, binary.AppendVarint(nil, int64(n))) {
			t.Fatalf("Num(%d) = %v", n, b)
		}
		for i, x := range b {
			if last := i == len(b)-1; last != (x < 128) || last && x == 0 && i > 0 {
				t.Fatalf("Num(%d) = %v", n, b)
			}
		}
		checkGetNum(t, b, n, len(b))
	}
	for n := -1100000; n <= 1100000; n++ {
		check(n)
	}
	for n := -2147483648; n <= 2147483647; n += 2411 {
		check(n)
	}
	r := rand.New(rand.NewSource(1))
	for range 300000 {
		check(int(int32(r.Uint32())) >> r.Intn(32))
	}
}

func TestGetNumNone(t *testing.T) { // P16.1
	for _, b := range noNumbers() {
		checkGetNum(t, b, 0, 0)
		if len(b) == 0 || b[len(b)-1] >= 128 && len(b) < 5 {
			// What is cut off may go on.
			continue
		}
		for _, tail := range tails() {
			checkGetNum(t, slices.Concat(b, tail), 0, 0)
		}
	}
	// No number ends where five bytes have 128 added, whatever is behind them.
	for x := range 128 {
		for n := 5; n < 20; n++ {
			checkGetNum(t, append(bytes.Repeat([]byte{byte(x) + 128}, n), byte(x)), 0, 0)
		}
	}
}

// TestGetNumOfAllBytes asks for the numbers with which all lists of up to two bytes begin, and all longer ones of some bytes: what is got, put, is those bytes, and where none is got, no number's bytes stand there.
func TestGetNumOfAllBytes(t *testing.T) { // P16.1, P16.4
	check := func(b []byte) {
		want, wantUsed := wantNum(b)
		checkGetNum(t, b, want, wantUsed)
		if wantUsed > 0 {
			checkNum(t, want, b[:wantUsed])
		}
	}
	for x := range 256 {
		check([]byte{byte(x)})
		for y := range 256 {
			check([]byte{byte(x), byte(y)})
			check([]byte{128, 128, 128, byte(x), byte(y)})
			check([]byte{255, 255, 255, byte(x), byte(y)})
		}
	}
	some := []byte{0, 1, 15, 16, 127, 128, 129, 143, 144, 255}
	var all func(b []byte)
	all = func(b []byte) {
		check(b)
		if len(b) < 6 {
			for _, x := range some {
				all(append(slices.Clip(b), x))
			}
		}
	}
	all(nil)
}

func TestText(t *testing.T) { // P16.1, P16.4
	for _, s := range texts() {
		want := append([]byte{byte(2 * len(s))}, s...)
		if got := code.Text(s); !bytes.Equal(got, want) {
			t.Fatalf("Text(%q) = %v, want %v", s, got, want)
		}
		for _, tail := range tails() {
			checkGetText(t, slices.Concat(want, tail), s, len(want))
		}
	}
	for _, s := range longTexts() {
		if got := code.Text(s); len(got) != 0 {
			t.Fatalf("Text(%q) = %v, want none", s, few(got))
		}
	}
}

func TestTextOfEachLength(t *testing.T) { // P16.1, P16.4
	r := rand.New(rand.NewSource(2))
	for n := range 20 {
		for range 2000 {
			s := string(random(r, n))
			b := code.Text(s)
			if n > 8 {
				if len(b) != 0 {
					t.Fatalf("Text(%q) = %v", s, b)
				}
				continue
			}
			if len(b) != n+1 || b[0] != byte(2*n) || string(b[1:]) != s {
				t.Fatalf("Text(%q) = %v", s, b)
			}
			checkGetText(t, append(b, random(r, r.Intn(4))...), s, n+1)
		}
	}
}

func TestGetTextNone(t *testing.T) { // P16.1
	for _, b := range noTexts() {
		checkGetText(t, b, "", 0)
	}
	// Numbers from below 0 to beyond MaxText, with fewer bytes behind them, just as many, and more.
	for _, n := range append([]int{-2147483648, -8192, -65, -64, 64, 8192, 1 << 20, 1 << 27, 2147483647}, -9, -8, -1, 0, 1, 2, 7, 8, 9, 10, 16) {
		for m := range 80 {
			b := append(binary.AppendVarint(nil, int64(n)), bytes.Repeat([]byte{'x'}, m)...)
			if n < 0 || n > 8 || m < n {
				checkGetText(t, b, "", 0)
			} else {
				checkGetText(t, b, strings.Repeat("x", n), n+1)
			}
		}
	}
}

func TestGetTextOfAnyBytes(t *testing.T) { // P16.1, P16.4
	r := rand.New(rand.NewSource(3))
	for range 500000 {
		b := random(r, r.Intn(14))
		if len(b) > 0 {
			b[0] &= byte(r.Intn(256)) & 159
		}
		want, wantUsed := wantText(b)
		checkGetText(t, b, want, wantUsed)
		if wantUsed > 0 && !bytes.Equal(code.Text(want), b[:wantUsed]) {
			t.Fatalf("Text(%q), which was got of %v", want, b)
		}
	}
}

func TestSum(t *testing.T) { // P16.2
	for _, c := range []struct {
		b    string
		want uint32
	}{
		{"", 0}, {"123456789", 3421780262}, {"a", 3904355907}, {"\x00", 3523407757}, {"\xff", 4278190080}, {"\xff\xff\xff\xff", 4294967295}, {"\x00\x00\x00\x00", 558161692}, {"abc", 891568578},
	} {
		if got := code.Sum([]byte(c.b)); got != c.want {
			t.Errorf("Sum(%q) = %d, want %d", c.b, got, c.want)
		}
	}
	if got := code.Sum(nil); got != 0 {
		t.Errorf("Sum of none = %d", got)
	}
	for x := range 256 {
		for y := range 256 {
			b := []byte{byte(x), byte(y)}
			if code.Sum(b[:1]) != wantSum(b[:1]) || code.Sum(b) != wantSum(b) {
				t.Fatalf("Sum of %d, and of %v: %d, %d", x, b, code.Sum(b[:1]), code.Sum(b))
			}
		}
	}
	for _, b := range append(bodies(), random(rand.New(rand.NewSource(4)), 1<<22+1)) {
		if got := code.Sum(b); got != wantSum(b) {
			t.Errorf("Sum of %d bytes, %v = %d, want %d", len(b), few(b), got, wantSum(b))
		}
	}
}

func TestSeal(t *testing.T) { // P16.2, P16.4
	for _, c := range []struct{ b, want []byte }{
		{nil, []byte{0, 0, 0, 0}}, {[]byte{}, []byte{0, 0, 0, 0}}, {[]byte{255}, []byte{255, 0, 0, 0, 255}}, {[]byte{0}, []byte{0, 141, 239, 2, 210}}, {[]byte("123456789"), []byte("123456789\x26\x39\xf4\xcb")}, {[]byte{255, 255, 255, 255}, bytes.Repeat([]byte{255}, 8)},
	} {
		if got := code.Seal(c.b); !bytes.Equal(got, c.want) {
			t.Errorf("Seal(%v) = %v, want %v", c.b, got, c.want)
		}
		checkOpen(t, c.want, c.b)
	}
	for _, b := range bodies() {
		want := binary.LittleEndian.AppendUint32(slices.Clone(b), wantSum(b))
		if got := code.Seal(b); !bytes.Equal(got, want) {
			t.Errorf("Seal of %d bytes, %v = %v", len(b), few(b), few(got))
		}
		checkOpen(t, want, b)
		// What was sealed twice is opened twice.
		twice := code.Seal(code.Seal(b))
		checkOpen(t, twice, want)
	}
}

func TestOpenFewBytes(t *testing.T) { // P16.2
	for _, b := range [][]byte{nil, {}, {0}, {255}, {0, 0}, {255, 255}, {0, 0, 0}, {255, 255, 255}, {0, 0, 0, 1}, {1, 0, 0, 0}, {0, 1, 0, 0}, {0, 0, 1, 0}, {0, 0, 0, 255}, {255, 255, 255, 255}, {128, 128, 128, 128}} {
		checkNotSealed(t, b)
	}
	checkOpen(t, []byte{0, 0, 0, 0}, nil)
	for x := range 256 {
		for i := range 4 {
			b := make([]byte, 4)
			if b[i] = byte(x); x > 0 {
				checkNotSealed(t, b)
			}
			checkNotSealed(t, bytes.Repeat([]byte{byte(x)}, i))
		}
	}
}

// TestOpenTurned turns each byte of what is sealed, those of the sum, too, to each of the other values.
func TestOpenTurned(t *testing.T) { // P16.2, P16.4
	for _, body := range bodies() {
		b := code.Seal(body)
		step := 1 + len(b)/100
		for i := range b {
			if i%step > 0 && i < len(b)-5 {
				continue
			}
			for x := 1; x < 256; x++ {
				if x%51 > 1 && len(b) > 2000 {
					continue
				}
				b[i] ^= byte(x)
				checkNotSealed(t, b)
				b[i] ^= byte(x)
			}
		}
		checkOpen(t, b, body)
	}
}

// TestOpenOtherSums asks of bytes whose sum stands behind them in another order, or isn't theirs.
func TestOpenOtherSums(t *testing.T) { // P16.2
	for _, body := range bodies() {
		sum := wantSum(body)
		for _, other := range []uint32{^sum, sum + 1, sum - 1, sum << 8, sum >> 8, sum&65535<<16 | sum>>16, 0, math.MaxUint32} {
			if other != sum {
				checkNotSealed(t, binary.LittleEndian.AppendUint32(slices.Clone(body), other))
			}
		}
		turned := binary.BigEndian.AppendUint32(slices.Clone(body), sum)
		if want, sealed := wantOpen(turned); sealed {
			checkOpen(t, turned, want)
		} else {
			checkNotSealed(t, turned)
		}
	}
}

// roomy are b in memory of its own, with room behind them, in which something stands.
func roomy(b []byte) []byte {
	return append(slices.Clone(b), 7, 77, 177, 7, 77, 177, 7, 77, 177)[:len(b)]
}

// whole are b with all that stands behind them.
func whole(b []byte) []byte { return b[:cap(b)] }

// overwrite writes over b and all that stands behind them.
func overwrite(b []byte) {
	for i := range whole(b) {
		whole(b)[i] ^= 85
	}
}

// apart tells whether no byte of a, or behind it, is one of b, or behind it.
func apart(a, b []byte) bool {
	was := slices.Clone(whole(b))
	overwrite(a)
	same := bytes.Equal(whole(b), was)
	overwrite(a)
	return same
}

// checkNew asks that call tells new memory of b, in which nothing of b is, and leaves b as it is, with what stands behind it.
func checkNew(t *testing.T, b []byte, call func(b []byte) []byte) {
	t.Helper()
	given := roomy(b)
	was := slices.Clone(whole(given))
	got := call(given)
	again := call(given)
	want := slices.Clone(got)
	if !bytes.Equal(whole(given), was) {
		t.Fatalf("%v, with what stands behind it, is %v behind the call", few(was), few(whole(given)))
	}
	if !bytes.Equal(again, want) || !apart(got, again) || !apart(again, got) {
		t.Fatalf("of %v two calls told the same memory, or other bytes", few(b))
	}
	overwrite(got)
	if !bytes.Equal(whole(given), was) {
		t.Fatalf("of %v an answer was told that shares memory with it", few(b))
	}
	overwrite(got)
	overwrite(given)
	if !bytes.Equal(got, want) || !bytes.Equal(again, want) {
		t.Fatalf("of %v an answer was told that changed with it", few(b))
	}
}

func TestSealAndOpenNewMemory(t *testing.T) { // P16.3, R2
	open := func(b []byte) []byte {
		got, _ := code.Open(b)
		return got
	}
	for _, b := range bodies() {
		checkNew(t, b, code.Seal)
		checkNew(t, b, open)
		checkNew(t, code.Seal(b), open)
		checkNew(t, code.Seal(b), code.Seal)
		// Sealed bytes that stand in greater memory, just ahead of others.
		all := slices.Concat(code.Seal(b), []byte{1, 2, 3, 4, 5, 6, 7, 8})
		was := slices.Clone(all)
		got, err := code.Open(all[:len(b)+4])
		if overwrite(append(got, 9, 9, 9, 9, 9)); err != nil || !bytes.Equal(all, was) {
			t.Fatalf("of %d bytes Open told memory that isn't new: %v", len(b), err)
		}
		overwrite(append(code.Seal(all[:len(b)]), 9, 9, 9, 9, 9))
		if !bytes.Equal(all, was) {
			t.Fatalf("Seal wrote behind %d bytes", len(b))
		}
	}
}

func TestNumAndTextNewMemory(t *testing.T) { // P16.3, R2
	for _, x := range edges() {
		got, again := code.Num(x.n), code.Num(x.n)
		if !apart(got, again) || !apart(again, got) {
			t.Fatalf("Num(%d) told the same memory twice", x.n)
		}
		overwrite(append(got, 9))
		overwrite(got)
		checkNum(t, x.n, x.b)
	}
	for _, s := range texts() {
		given := strings.Clone(s)
		got, again := code.Text(given), code.Text(given)
		want := slices.Clone(again)
		if !apart(got, again) || !apart(again, got) {
			t.Fatalf("Text(%q) told the same memory twice", s)
		}
		overwrite(got)
		if given != s || !bytes.Equal(code.Text(s), want) {
			t.Fatalf("Text(%q) told memory that isn't new", s)
		}
	}
}

func TestGetNewMemory(t *testing.T) { // P16.3, R2
	for _, s := range texts() {
		for _, tail := range tails() {
			b := roomy(slices.Concat([]byte{byte(2 * len(s))}, []byte(s), tail))
			was := slices.Clone(whole(b))
			got, used := code.GetText(b)
			if !bytes.Equal(whole(b), was) {
				t.Fatalf("GetText changed %v to %v", was, whole(b))
			}
			if overwrite(b); got != s || used != len(s)+1 {
				t.Fatalf("GetText(%v), written over, is %q", was, got)
			}
		}
	}
	for _, l := range [][][]byte{noNumbers(), noTexts(), bodies()} {
		for _, b := range l {
			b = roomy(b)
			was := slices.Clone(whole(b))
			code.GetNum(b)
			code.GetText(b)
			code.Sum(b)
			if !bytes.Equal(whole(b), was) {
				t.Fatalf("%v is %v behind the calls", few(was), few(whole(b)))
			}
		}
	}
}

// TestStream puts numbers and texts one behind the other, seals them, and gets them in order.
func TestStream(t *testing.T) { // P16.4
	r := rand.New(rand.NewSource(5))
	for range 3000 {
		var numbers []int
		var words []string
		var b []byte
		for range r.Intn(40) {
			n, s := int(int32(r.Uint32()))>>r.Intn(32), string(random(r, r.Intn(9)))
			numbers, words = append(numbers, n), append(words, s)
			b = append(append(b, code.Num(n)...), code.Text(s)...)
		}
		b, err := code.Open(code.Seal(b))
		if err != nil {
			t.Fatal(err)
		}
		for i := range numbers {
			n, used := code.GetNum(b)
			b = b[used:]
			s, more := code.GetText(b)
			b = b[more:]
			if n != numbers[i] || s != words[i] || used == 0 || more == 0 {
				t.Fatalf("%d, %q was got as %d, %q", numbers[i], words[i], n, s)
			}
		}
		if len(b) > 0 {
			t.Fatalf("%v is left", few(b))
		}
	}
}

// TestAnyArguments asks that all calls end, and none panics, and that they tell what is asked for: P1, R3.
func TestAnyArguments(t *testing.T) {
	r := rand.New(rand.NewSource(6))
	check := func(b []byte) {
		n, used := wantNum(b)
		checkGetNum(t, b, n, used)
		s, used := wantText(b)
		checkGetText(t, b, s, used)
		if code.Sum(b) != wantSum(b) {
			t.Fatalf("Sum of %d bytes, %v = %d", len(b), few(b), code.Sum(b))
		}
		if want, sealed := wantOpen(b); sealed {
			checkOpen(t, b, want)
		} else {
			checkNotSealed(t, b)
		}
		checkOpen(t, code.Seal(b), b)
		if got := code.Text(string(b)); len(b) > 8 && len(got) > 0 || len(b) <= 8 && len(got) != len(b)+1 {
			t.Fatalf("Text of %d bytes, %v = %v", len(b), few(b), few(got))
		}
	}
	for _, l := range [][][]byte{noNumbers(), noTexts(), tails(), bodies()} {
		for _, b := range l {
			check(b)
		}
	}
	for range 100000 {
		b := random(r, r.Intn(20))
		for i := range b {
			// Many with 128 added, and many that are small.
			switch r.Intn(4) {
			case 0:
				b[i] |= 128
			case 1:
				b[i] &= 31
			}
		}
		check(b)
	}
	for range 1000000 {
		n := int(r.Uint64()) >> r.Intn(64)
		if n < -2147483648 || n > 2147483647 {
			checkNum(t, n, nil)
		} else {
			checkNum(t, n, binary.AppendVarint(nil, int64(n)))
		}
	}
}
