package enc_test

import (
	"bytes"
	"encoding/binary"
	"hash/crc32"
	"math"
	"math/rand"
	"reflect"
	"slices"
	"strings"
	"testing"

	"gallipot/api"
	"gallipot/enc"
	"gallipot/item"
	"gallipot/know"
	"gallipot/list"
	"gallipot/local"
	"gallipot/pred"
	"gallipot/recv"
)

var (
	star = api.Pred{Op: api.Star}
	none = api.Pred{Op: api.None}

	minus0 = math.Copysign(0, -1)
)

func and(kids ...api.Pred) api.Pred { return api.Pred{Op: api.And, Kids: kids} }
func or(kids ...api.Pred) api.Pred  { return api.Pred{Op: api.Or, Kids: kids} }
func not(kids ...api.Pred) api.Pred { return api.Pred{Op: api.Not, Kids: kids} }
func less(n int) api.Pred           { return api.Pred{Op: api.Less, N: n} }
func more(n int) api.Pred           { return api.Pred{Op: api.More, N: n} }
func kind(s string) api.Pred        { return api.Pred{Op: api.Kind, Text: s} }
func prefix(s string) api.Pred      { return api.Pred{Op: api.Prefix, Text: s} }

func near(at complex128, n int) api.Pred { return api.Pred{Op: api.Near, At: at, N: n} }

// deep is a filter of so many parts, each within the one ahead of it.
func deep(parts int) api.Pred {
	p := star
	for range parts - 1 {
		p = not(p)
	}
	return p
}

// wide is a filter of so many parts, all but one of them its Kids.
func wide(parts int) api.Pred { return or(slices.Repeat([]api.Pred{star}, parts-1)...) }

// bush is a filter with far more parts than can be gone through, as its Kids share memory.
func bush(levels int) api.Pred {
	p := star
	for range levels {
		p = and(p, p)
	}
	return p
}

// ver is that version.
func ver(r, c int) api.Ver { return api.Ver{R: r, C: c} }

// made is the item of that Id and number, in the version of that replica and count.
func made(id string, num, r, c, stamp int) api.Item {
	return api.Item{Id: id, Ver: ver(r, c), Stamp: stamp, Kind: "pot", Num: num, At: 3 - 4i}
}

// dead is x, but Dead.
func dead(x api.Item) api.Item {
	x.Dead = true
	return x
}

// has is that version of an Id, of that stamp.
func has(id string, r, c, stamp int) api.Has {
	return api.Has{Id: id, Ver: ver(r, c), Stamp: stamp}
}

// frag is a piece of those counts and Ids.
func frag(v api.Vec, ids ...string) api.Frag { return api.Frag{Ids: ids, Vec: v} }

// stays is the entry of that item.
func stays(x api.Item) api.Entry { return api.Entry{Item: x} }

// goes is the entry by which that version is to go, as new came behind it.
func goes(id string, old, new api.Ver) api.Entry {
	return api.Entry{Item: api.Item{Id: id, Ver: old}, Goes: true, New: new}
}

// name is an Id, of each i below 676 another one; they rise.
func name(i int) string { return string([]byte{byte('a' + i/26), byte('a' + i%26)}) }

// leave are so many entries that may be those of a Done.
func leave(n int) []api.Entry {
	var l []api.Entry
	for i := range n {
		l = append(l, goes(name(i), ver(1+i%8, 1+i), ver(0, 0)))
	}
	return l
}

// haves are so many, that rise and may be, if there are at most 40.
func haves(n int) []api.Has {
	var l []api.Has
	for i := range n {
		l = append(l, has(name(i), 1+i%8, 1+i, 1+i*9))
	}
	return l
}

// knowns may be.
func knowns() []api.Know {
	return []api.Know{
		{}, {Star: api.Vec{1, 2, 3, 4, 5, 6, 7, 8}}, {Star: api.Vec{1000, 7: 1000}}, {L: []api.Frag{frag(api.Vec{7: 1}, "a")}}, {L: []api.Frag{frag(api.Vec{1, 2}, "a", "b", "c", "zzzzzzzz")}}, {L: []api.Frag{frag(api.Vec{1000}, "a")}},
		{Star: api.Vec{0, 2}, L: []api.Frag{frag(api.Vec{1}, "a", "d"), frag(api.Vec{0, 3}, "b", "e", "g"), frag(api.Vec{4, 5, 6}, "c")}},
	}
}

// oddKnowns may not be; those of few could be told as bytes all the same.
func oddKnowns() []api.Know {
	return []api.Know{
		{Star: api.Vec{-1}}, {Star: api.Vec{7: 1001}}, {L: []api.Frag{{}}}, {L: []api.Frag{{}, {}, {Ids: []string{}}}}, {L: []api.Frag{frag(api.Vec{1})}}, {L: []api.Frag{frag(api.Vec{1}, "b", "a")}}, {L: []api.Frag{frag(api.Vec{1}, "a", "a")}}, {L: []api.Frag{frag(api.Vec{1}, "A")}}, {L: []api.Frag{frag(api.Vec{1}, "")}}, {L: []api.Frag{frag(api.Vec{1}, "abcdefghi")}}, {L: []api.Frag{frag(api.Vec{1001}, "a")}}, {L: []api.Frag{frag(api.Vec{1, -1}, "a")}},
		{Star: api.Vec{3}, L: []api.Frag{frag(api.Vec{3}, "a")}}, {L: []api.Frag{frag(api.Vec{2}, "b"), frag(api.Vec{1}, "a")}}, {L: []api.Frag{frag(api.Vec{2}, "a"), frag(api.Vec{2}, "b")}}, {L: []api.Frag{frag(api.Vec{2}, "a"), frag(api.Vec{1}, "a")}}, {L: []api.Frag{frag(api.Vec{2}, "a"), frag(api.Vec{}, "c")}}, {L: []api.Frag{frag(api.Vec{math.MaxInt, math.MinInt}, "a", "\xff\x00")}},
	}
}

// filters may be.
func filters() []api.Pred {
	return []api.Pred{
		star, none, kind(""), kind("pot"), kind("abcdefgh"), prefix(""), prefix("a"), prefix("zzzzzzzz"), less(0), less(5), less(-5), less(1000000), less(-1000000), more(5), more(1000000), more(-1000000),
		near(0, 0), near(3-4i, 0), near(-3+4i, 25), near(-1000-1000i, 8000000), near(1000+1000i, 7999999), near(complex(minus0, minus0), 1), {Op: api.Star, At: complex(minus0, minus0)},
		and(), or(), and(star), or(none, less(5)), not(less(5)), not(not(star)), not(and()), and(or(and(), or()), not(or())), or(near(-1, 64), not(prefix("q"))),
		deep(6), wide(30), not(wide(29)), and(deep(5), deep(5), deep(5), deep(5), deep(5), and(), or(), not(star)), and(or(and(or(and(star, none, kind("a")), less(1)), star), near(1, 2)), wide(19)),
	}
}

// oddFilters may not be.
func oddFilters() []api.Pred {
	return []api.Pred{
		{}, {Op: -1}, {Op: 11}, {Op: 12}, {Op: math.MaxInt, Text: "A", N: math.MinInt, At: 9, Kids: []api.Pred{star}}, not(), not(star, star), not(not()), kind("A"), kind("a b"), kind("abcdefghi"), prefix("\xff"), less(1000001), less(-1000001), more(1000001), more(-1000001), {Op: api.Star, Text: "a"}, {Op: api.None, N: 1}, {Op: api.Star, Kids: []api.Pred{{}, star}}, {Op: api.Less, Text: "a"}, {Op: api.Kind, N: 3}, {Op: api.And, At: 1i}, and(api.Pred{}, or(api.Pred{Op: 99})),
		near(0, -1), near(0, 8000001), near(1001, 1), near(-1001, 1), near(1001i, 1), near(-1001i, 1), near(0.5, 1), near(complex(math.NaN(), math.Inf(-1)), 1), deep(7), deep(8), deep(1000), wide(31), wide(32), wide(1000), not(wide(30)), and(wide(15), wide(15)), not(deep(6)), and(star, deep(6)), bush(6),
	}
}

// asks, batches, dones and acks may be.
func asks() []api.Msg {
	l := []api.Msg{
		{Kind: api.Ask, From: 1, To: 2, F: star}, {Kind: api.Ask, From: 8, To: 1, Sid: 1000000, F: or(less(5), not(kind("pot"))), K: knowns()[6], Have: []api.Has{has("a", 1, 1, 1), has("b", 8, 1000, 1000000), has("zzzzzzzz", 4, 2, 64)}},
		{Kind: api.Ask, From: 2, To: 7, Sid: 64, F: none, Have: haves(40)},
	}
	for i, f := range filters() {
		l = append(l, api.Msg{Kind: api.Ask, From: 5, To: 3, Sid: i, F: f, K: knowns()[i%7], Have: haves(i % 4)})
	}
	return l
}

func batches() []api.Msg {
	l := []api.Msg{{Kind: api.Batch, From: 2, To: 1, Turn: 1}, {Kind: api.Batch, From: 1, To: 8, Sid: 1000000, Turn: 1000000, N: 40}}
	e := entries()
	for i := range e {
		l = append(l, api.Msg{Kind: api.Batch, From: 7, To: 6, Sid: 63 + i, Turn: 9, N: i % 41, L: e[i:min(i+1+i%4, len(e))]})
	}
	return l
}

func dones() []api.Msg {
	l := []api.Msg{{Kind: api.Done, From: 2, To: 1, Turn: 1}, {Kind: api.Done, From: 3, To: 8, Sid: 1000000, Turn: 1000000, N: 40, K: knowns()[2], L: leave(40)}}
	for i, k := range knowns() {
		l = append(l, api.Msg{Kind: api.Done, From: 4, To: 5, Sid: 4, Turn: 64 + i, N: i, K: k, L: leave(i)})
	}
	return l
}

func acks() []api.Msg {
	var l []api.Msg
	for i, k := range knowns() {
		l = append(l, api.Msg{Kind: api.Ack, From: 1 + i, To: 8 - i, K: k, Star: i%2 == 0}, api.Msg{Kind: api.Ack, From: 8, To: 1, K: k, Star: i%2 == 1})
	}
	return slices.DeleteFunc(l, func(m api.Msg) bool { return m.From == m.To })
}

// messages may be.
func messages() []api.Msg { return slices.Concat(asks(), batches(), dones(), acks()) }

// entries may be.
func entries() []api.Entry {
	return []api.Entry{
		stays(made("a", 3, 2, 5, 6)), stays(dead(made("zzzzzzzz", -1000000, 8, 1000, 1000000))), stays(api.Item{Id: "b", Ver: ver(1, 1), Stamp: 1}), stays(api.Item{Id: "abcdefgh", Ver: ver(1, 64), Stamp: 8192, Kind: "abcdefgh", Num: 1000000, At: 1000 - 1000i}),
		stays(api.Item{Id: "c", Ver: ver(3, 63), Stamp: 64, Num: -1, At: -1000 + 1i, Dead: true}), stays(api.Item{Id: "d", Ver: ver(3, 3), Stamp: 3, At: complex(minus0, minus0)}),
		goes("b", ver(3, 4), ver(5, 6)), goes("a", ver(1, 1), ver(0, 0)), goes("zzzzzzzz", ver(8, 1000), ver(8, 1000)), goes("q", ver(8, 1), ver(1, 1)), {Goes: true, Item: api.Item{Id: "a", Ver: ver(1, 2), At: complex(minus0, minus0)}},
	}
}

// oddEntries may not be.
func oddEntries() []api.Entry {
	l := []api.Entry{{}, {Goes: true}, {Goes: true, New: ver(1, 1)}, {New: ver(1, 1)}, {Goes: true, Item: made("a", 3, 2, 5, 6)}, {Item: api.Item{Id: "b", Ver: ver(3, 4)}}}
	for _, change := range []func(x *api.Item){
		func(x *api.Item) { x.Id = "" }, func(x *api.Item) { x.Id = "A" }, func(x *api.Item) { x.Id = "abcdefghi" }, func(x *api.Item) { x.Id = "a\x00" }, func(x *api.Item) { x.Ver.R = 0 }, func(x *api.Item) { x.Ver.R = 9 }, func(x *api.Item) { x.Ver.R = -1 },
		func(x *api.Item) { x.Ver.C = 0 }, func(x *api.Item) { x.Ver.C = -1 }, func(x *api.Item) { x.Ver.C = 1001 }, func(x *api.Item) { x.Ver = ver(0, 0) }, func(x *api.Item) { x.Ver = ver(math.MaxInt, math.MinInt) },
	} {
		for _, e := range []api.Entry{stays(made("a", 3, 2, 5, 6)), goes("a", ver(2, 5), ver(0, 0)), goes("a", ver(2, 5), ver(2, 6))} {
			change(&e.Item)
			l = append(l, e)
		}
	}
	for _, change := range []func(x *api.Item){
		func(x *api.Item) { x.Stamp = 0 }, func(x *api.Item) { x.Stamp = -1 }, func(x *api.Item) { x.Stamp = 1000001 }, func(x *api.Item) { x.Kind = "abcdefghi" }, func(x *api.Item) { x.Kind = "A" }, func(x *api.Item) { x.Num = 1000001 }, func(x *api.Item) { x.Num = -1000001 },
		func(x *api.Item) { x.At = 1001 }, func(x *api.Item) { x.At = -1001 }, func(x *api.Item) { x.At = 1001i }, func(x *api.Item) { x.At = -1001i }, func(x *api.Item) { x.At = 0.5i }, func(x *api.Item) { x.At = complex(math.NaN(), 0) }, func(x *api.Item) { x.At = complex(0, math.Inf(1)) },
	} {
		e := stays(made("a", 3, 2, 5, 6))
		change(&e.Item)
		l = append(l, e)
	}
	// What goes has no more than an Id and a version.
	for _, change := range []func(x *api.Item){
		func(x *api.Item) { x.Stamp = 1 }, func(x *api.Item) { x.Stamp = -1 }, func(x *api.Item) { x.Kind = "a" }, func(x *api.Item) { x.Num = 1 }, func(x *api.Item) { x.Num = -1 }, func(x *api.Item) { x.At = 1 }, func(x *api.Item) { x.At = -1i }, func(x *api.Item) { x.At = complex(math.NaN(), 0) }, func(x *api.Item) { x.Dead = true },
	} {
		for _, new := range []api.Ver{{}, ver(2, 6)} {
			e := goes("a", ver(2, 5), new)
			change(&e.Item)
			l = append(l, e)
		}
	}
	for _, new := range []api.Ver{ver(0, 1), ver(1, 0), ver(9, 1), ver(9, 0), ver(-1, 1), ver(-1, 0), ver(1, 1001), ver(0, 1001), ver(1, -1), ver(0, -1), ver(math.MinInt, math.MaxInt)} {
		l = append(l, goes("a", ver(2, 5), new), api.Entry{Item: made("a", 3, 2, 5, 6), New: new})
	}
	for _, new := range []api.Ver{ver(1, 1), ver(2, 5), ver(8, 1000)} {
		l = append(l, api.Entry{Item: made("a", 3, 2, 5, 6), New: new})
	}
	return l
}

// numbers are of any replica, count, turn, or session, or of none.
func numbers() []int {
	return []int{math.MinInt, math.MinInt + 1, -1 << 32, -1<<31 - 1, -1 << 31, -3, -1, 0, 1, 2, 3, 4, 5, 6, 7, 8, 9, 10, 39, 40, 41, 42, 64, 1000, 1001, 999999, 1000000, 1000001, 1<<31 - 1, 1 << 31, 1 << 32, 1<<32 + 1, math.MaxInt - 1, math.MaxInt}
}

// base is a state that may be: a and c in Store, b and d in Out, c and d Dead.
func base() api.State {
	return api.State{
		R: 3, F: and(less(5), or(kind("pot"), star), not(none)),
		Store: []api.Item{made("a", 3, 3, 1, 1), dead(made("c", 4, 1, 2, 4))},
		Out:   []api.Item{made("b", 5, 3, 2, 2), dead(made("d", 9, 2, 7, 9))},
		K:     api.Know{Star: api.Vec{1, 0, 2}, L: []api.Frag{frag(api.Vec{2}, "c"), frag(api.Vec{0, 7}, "d", "e")}},
		Count: 2, Clock: 9, Epoch: 4,
	}
}

// filled is a state with so many items in Store, and so many in Out; it may be, if there are at most 40 of them.
func filled(store, out int) api.State {
	s := api.State{R: 5, F: less(5)}
	for i := range store + out {
		x := made(name(i*7%676), 4, 5, i+1, i+1)
		x.Dead = i%5 == 0
		if i < store {
			s.Store = list.Put(s.Store, x)
		} else {
			x.Num = 5
			s.Out = list.Put(s.Out, x)
		}
	}
	s.Count, s.Clock, s.K.Star[4] = store+out, store+out, store+out
	return s
}

// states may be.
func states() []api.State {
	l := []api.State{base(), filled(40, 0), filled(0, 40), filled(23, 17), filled(1, 0), {R: 1, F: star}, {R: 8, F: none, K: knowns()[1], Count: 1000, Clock: 1000000, Epoch: 1000000}}
	for i, f := range filters() {
		s, _ := local.New(1+i%8, f)
		s, _ = local.Create(s, "jar", "pot", 4, -3+4i)
		s, _ = local.Create(s, "abcdefgh", "", -1000000, 1000-1000i)
		s, _ = recv.Item(s, dead(made("cup", 9, 1+(i+1)%8, 70, 64)))
		l = append(l, s)
	}
	return l
}

// oddStates may not be.
func oddStates() []api.State {
	var l []api.State
	add := func(change func(s *api.State)) {
		s := base()
		change(&s)
		l = append(l, s)
	}
	for _, n := range []int{math.MinInt, -1 << 31, -1, 0, 9, 1 << 31, math.MaxInt} {
		add(func(s *api.State) { s.R = n })
	}
	for _, n := range []int{math.MinInt, -1 << 31, -1, 1000001, 1 << 31, math.MaxInt} {
		add(func(s *api.State) { s.Epoch = n })
		add(func(s *api.State) { s.Clock = n })
		add(func(s *api.State) { s.Count = n })
	}
	add(func(s *api.State) { s.Count = 1001 })
	add(func(s *api.State) { s.Count = 1 })
	add(func(s *api.State) { s.Clock = 8 })
	for _, f := range append(oddFilters(), star, none, less(4)) {
		add(func(s *api.State) { s.F = f })
	}
	for _, k := range append(oddKnowns(), api.Know{}) {
		add(func(s *api.State) { s.K = k })
	}
	for _, e := range oddEntries() {
		if !item.May(e.Item) {
			add(func(s *api.State) { s.Store[0] = e.Item })
			add(func(s *api.State) { s.Out[1] = e.Item })
		}
	}
	add(func(s *api.State) { slices.Reverse(s.Store) })
	add(func(s *api.State) { slices.Reverse(s.Out) })
	add(func(s *api.State) { s.Store[1] = s.Store[0] })
	add(func(s *api.State) { s.Store, s.Out = s.Out, s.Store })
	add(func(s *api.State) { s.Out[0].Id = "a" })
	return append(l, filled(41, 0), filled(0, 41), filled(20, 21), filled(300, 300), api.State{})
}

// lay tells l as bytes, by the chapter's sentences; what may not be, too, as far as they go.
func lay(l ...any) []byte {
	var b []byte
	for _, x := range l {
		switch x := x.(type) {
		case int:
			b = binary.AppendVarint(b, int64(x))
		case string:
			b = append(binary.AppendVarint(b, int64(len(x))), x...)
		case bool:
			b = append(b, map[bool]byte{false: 0, true: 2}[x])
		case []byte:
			b = append(b, x...)
		case []any:
			b = append(b, lay(x...)...)
		case api.Vec:
			b = append(b, lay(x[0], x[1], x[2], x[3], x[4], x[5], x[6], x[7])...)
		default:
			b = append(b, lay(parts(x)...)...)
		}
	}
	return b
}

// parts tells what x is told by, in order.
func parts(x any) []any {
	switch x := x.(type) {
	case api.Ver:
		return []any{x.R, x.C}
	case complex128:
		return []any{int(real(x)), int(imag(x))}
	case api.Item:
		return []any{x.Id, x.Ver, x.Stamp, x.Kind, x.Num, x.At, x.Dead}
	case api.Pred:
		return append([]any{x.Op}, filterParts(x)...)
	case api.Frag:
		return []any{several(x.Ids), x.Vec}
	case api.Know:
		return []any{x.Star, several(x.L)}
	case api.Has:
		return []any{x.Id, x.Ver, x.Stamp}
	case api.Entry:
		if x.Goes {
			return []any{1, x.Item.Id, x.Item.Ver, x.New}
		}
		return []any{0, x.Item}
	case api.State:
		return []any{x.R, x.F, several(x.Store), several(x.Out), x.K, x.Count, x.Clock, x.Epoch}
	}
	m := x.(api.Msg)
	return append([]any{m.Kind, m.From, m.To}, msgParts(m)...)
}

func filterParts(p api.Pred) []any {
	switch p.Op {
	case 3, 4:
		return []any{p.Text}
	case 5, 6:
		return []any{p.N}
	case 7:
		return []any{p.At, p.N}
	case 8, 9:
		return []any{several(p.Kids)}
	case 10:
		return several(p.Kids)[1:]
	}
	return nil
}

func msgParts(m api.Msg) []any {
	switch m.Kind {
	case 1:
		return []any{m.Sid, m.F, m.K, several(m.Have)}
	case 2:
		return []any{m.Sid, m.Turn, m.N, several(m.L)}
	case 3:
		return []any{m.Sid, m.Turn, m.N, m.K, several(m.L)}
	case 4:
		return []any{m.K, m.Star}
	}
	return nil
}

// several is how many l has, and these.
func several[T any](l []T) []any {
	told := []any{len(l)}
	for _, x := range l {
		told = append(told, x)
	}
	return told
}

// sealed are b and their sum.
func sealed(b []byte) []byte {
	return binary.LittleEndian.AppendUint32(slices.Clone(b), crc32.ChecksumIEEE(b))
}

// cursor gets what lay tells; it panics where something else stands.
type cursor struct {
	b     []byte
	depth int
}

func (c *cursor) num() int {
	n, used := binary.Varint(c.b)
	if used <= 0 || n < -1<<31 || n >= 1<<31 || used != len(binary.AppendVarint(nil, n)) {
		panic("no number")
	}
	c.b = c.b[used:]
	return int(n)
}

func (c *cursor) upTo(most int) int {
	n := c.num()
	if n < 0 || n > most {
		panic("no such number")
	}
	return n
}

func (c *cursor) get(l ...any) {
	for _, x := range l {
		switch x := x.(type) {
		case *int:
			*x = c.num()
		case *string:
			n := c.upTo(min(8, len(c.b)))
			*x, c.b = string(c.b[:n]), c.b[n:]
		case *bool:
			*x = c.upTo(1) == 1
		case *api.Vec:
			c.get(&x[0], &x[1], &x[2], &x[3], &x[4], &x[5], &x[6], &x[7])
		case *api.Ver:
			c.get(&x.R, &x.C)
		case *complex128:
			*x = complex(float64(c.num()), 0)
			*x += complex(0, float64(c.num()))
		case *api.Item:
			c.get(&x.Id, &x.Ver, &x.Stamp, &x.Kind, &x.Num, &x.At, &x.Dead)
		case *api.Frag:
			getSeveral(c, &x.Ids)
			c.get(&x.Vec)
		case *api.Know:
			c.get(&x.Star)
			getSeveral(c, &x.L)
		case *api.Has:
			c.get(&x.Id, &x.Ver, &x.Stamp)
		case *api.Entry:
			if c.get(&x.Goes); x.Goes {
				c.get(&x.Item.Id, &x.Item.Ver, &x.New)
			} else {
				c.get(&x.Item)
			}
		case *api.Pred:
			c.filter(x)
		}
	}
}

func (c *cursor) filter(p *api.Pred) {
	if c.depth++; c.depth > 6 {
		panic("too deep")
	}
	switch p.Op = c.num(); p.Op {
	case 1, 2:
	case 3, 4:
		c.get(&p.Text)
	case 5, 6:
		c.get(&p.N)
	case 7:
		c.get(&p.At, &p.N)
	case 8, 9:
		getSeveral(c, &p.Kids)
	case 10:
		p.Kids = make([]api.Pred, 1)
		c.get(&p.Kids[0])
	default:
		panic("no Op")
	}
	c.depth--
}

func (c *cursor) msg(m *api.Msg) {
	switch c.get(&m.Kind, &m.From, &m.To); m.Kind {
	case 1:
		c.get(&m.Sid, &m.F, &m.K)
		getSeveral(c, &m.Have)
	case 2:
		c.get(&m.Sid, &m.Turn, &m.N)
		getSeveral(c, &m.L)
	case 3:
		c.get(&m.Sid, &m.Turn, &m.N, &m.K)
		getSeveral(c, &m.L)
	case 4:
		c.get(&m.K, &m.Star)
	}
}

func (c *cursor) state(s *api.State) {
	c.get(&s.R, &s.F)
	getSeveral(c, &s.Store)
	getSeveral(c, &s.Out)
	c.get(&s.K, &s.Count, &s.Clock, &s.Epoch)
}

func getSeveral[T any](c *cursor, l *[]T) {
	for range c.upTo(len(c.b)) {
		var x T
		c.get(&x)
		*l = append(*l, x)
	}
}

// wantGet is the message that may be whose bytes, not sealed, b are, and whether there is one.
func wantGet(b []byte) (m api.Msg, ok bool) {
	defer func() { recover() }()
	c := cursor{b: b}
	c.msg(&m)
	return m, len(c.b) == 0 && mayMsg(m)
}

// wantGetState is the state that may be whose bytes b are, and whether there is one.
func wantGetState(b []byte) (s api.State, ok bool) {
	defer func() { recover() }()
	c := cursor{b: b}
	c.state(&s)
	return s, len(c.b) == 0 && local.May(s)
}

// mayMsg tells whether m may be, sentence by sentence.
func mayMsg(m api.Msg) bool {
	from1to8 := func(n int) bool { return n >= 1 && n <= 8 }
	if !from1to8(m.From) || !from1to8(m.To) || m.From == m.To {
		return false
	}
	ask := m.Sid >= 0 && m.Sid <= 1000000
	answer := ask && m.Turn >= 1 && m.Turn <= 1000000 && m.N >= 0 && m.N <= 40
	noFilter := m.F.Op == 0 && m.F.Text == "" && m.F.N == 0 && m.F.At == 0 && len(m.F.Kids) == 0
	switch m.Kind {
	case 1:
		return ask && pred.May(m.F) && know.May(m.K) && mayHave(m.Have) && m.Turn == 0 && m.N == 0 && len(m.L) == 0 && !m.Star
	case 2:
		return answer && len(m.L) <= 4 && !slices.ContainsFunc(m.L, odd) && noFilter && m.K.Star == api.Vec{} && len(m.K.L) == 0 && len(m.Have) == 0 && !m.Star
	case 3:
		left := func(e api.Entry) bool { return !e.Goes || e.New != ver(0, 0) }
		return answer && len(m.L) <= 40 && !slices.ContainsFunc(m.L, odd) && !slices.ContainsFunc(m.L, left) && know.May(m.K) && noFilter && len(m.Have) == 0 && !m.Star
	case 4:
		return know.May(m.K) && m.Sid == 0 && m.Turn == 0 && m.N == 0 && len(m.L) == 0 && noFilter && len(m.Have) == 0
	}
	return false
}

// mayVer tells whether v may be a version.
func mayVer(v api.Ver) bool { return v.R >= 1 && v.R <= 8 && v.C >= 1 && v.C <= 1000 }

// mayHave tells whether l may be what an Ask has.
func mayHave(l []api.Has) bool {
	id := ""
	for _, h := range l {
		if h.Id <= id || !item.Name(h.Id) || !mayVer(h.Ver) || h.Stamp < 1 || h.Stamp > 1000000 {
			return false
		}
		id = h.Id
	}
	return len(l) <= 40
}

// odd tells whether e may not be.
func odd(e api.Entry) bool {
	x := e.Item
	if !e.Goes {
		return !item.May(x) || e.New != ver(0, 0)
	}
	bare := x.Stamp == 0 && x.Kind == "" && x.Num == 0 && x.At == 0 && !x.Dead
	return !bare || !item.Name(x.Id) || !mayVer(x.Ver) || !mayVer(e.New) && e.New != ver(0, 0)
}

// roomy is v in memory of its own, with room behind all its lists, in which something stands.
func roomy(v reflect.Value) reflect.Value {
	w := reflect.New(v.Type()).Elem()
	switch v.Kind() {
	case reflect.Struct:
		for i := range v.NumField() {
			w.Field(i).Set(roomy(v.Field(i)))
		}
	case reflect.Slice:
		w.Set(reflect.MakeSlice(v.Type(), v.Len()+3, v.Len()+3))
		for i := range w.Len() {
			if i < v.Len() {
				w.Index(i).Set(roomy(v.Index(i)))
			} else {
				scribble(w.Index(i))
			}
		}
		w.SetLen(v.Len())
	default:
		w.Set(v)
	}
	return w
}

// copyOf is v in memory of its own, with room behind all its lists.
func copyOf[T any](v T) T { return roomy(reflect.ValueOf(v)).Interface().(T) }

// scribble writes over all of v, what stands behind its lists, too.
func scribble(v reflect.Value) {
	switch v.Kind() {
	case reflect.Struct:
		for i := range v.NumField() {
			scribble(v.Field(i))
		}
	case reflect.Slice:
		for i := range v.Cap() {
			scribble(v.Slice(0, v.Cap()).Index(i))
		}
	case reflect.Array:
		for i := range v.Len() {
			scribble(v.Index(i))
		}
	case reflect.Int:
		v.SetInt(99)
	case reflect.Uint8:
		v.SetUint(^v.Uint() & 255)
	case reflect.String:
		v.SetString("over")
	case reflect.Complex128:
		v.SetComplex(99)
	case reflect.Bool:
		v.SetBool(true)
	}
}

// overwrite writes over all that v has.
func overwrite[T any](v T) { scribble(reflect.ValueOf(&v).Elem()) }

// places puts where each element of each list of v stands, behind their lengths, too, behind l.
func places(l []uintptr, v reflect.Value) []uintptr {
	switch v.Kind() {
	case reflect.Struct:
		for i := range v.NumField() {
			l = places(l, v.Field(i))
		}
	case reflect.Slice:
		v = v.Slice(0, v.Cap())
		for i := range v.Len() {
			l = places(append(l, v.Index(i).Addr().Pointer()), v.Index(i))
		}
	}
	return l
}

// alikeValues tells whether both are alike: nil and empty are one, and -0 is 0; or, strictly, written alike, with what stands behind their lists.
func alikeValues(a, b reflect.Value, strict bool) bool {
	switch a.Kind() {
	case reflect.Struct:
		for i := range a.NumField() {
			if !alikeValues(a.Field(i), b.Field(i), strict) {
				return false
			}
		}
		return true
	case reflect.Slice:
		if a.Len() != b.Len() || strict && a.Cap() != b.Cap() {
			return false
		}
		if strict {
			a, b = a.Slice(0, a.Cap()), b.Slice(0, b.Cap())
		}
		for i := range a.Len() {
			if !alikeValues(a.Index(i), b.Index(i), strict) {
				return false
			}
		}
		return true
	case reflect.Complex128:
		bits := func(c complex128) [2]uint64 { return [2]uint64{math.Float64bits(real(c)), math.Float64bits(imag(c))} }
		return bits(a.Complex()) == bits(b.Complex()) || !strict && a.Complex() == b.Complex()
	}
	return a.Interface() == b.Interface()
}

// alike tells whether both are alike.
func alike[T any](a, b T) bool { return alikeValues(reflect.ValueOf(a), reflect.ValueOf(b), false) }

// untouched tells whether v is what copyOf told of was, behind all its lists, too.
func untouched[T any](v, was T) bool {
	return alikeValues(reflect.ValueOf(v), reflect.ValueOf(copyOf(was)), true)
}

// few is how much of b a failure shows.
func few(b []byte) []byte { return b[:min(len(b), 60)] }

// checkPut asks for m's bytes, or for none and ErrArg, and that m stays: P17.1, R3.
func checkPut(t *testing.T, m api.Msg, want bool) {
	t.Helper()
	given := copyOf(m)
	if got := enc.May(given); got != want {
		t.Fatalf("May(%+v) = %v", m, got)
	}
	b, err := enc.Put(given)
	if want && (err != nil || !bytes.Equal(b, sealed(lay(m)))) {
		t.Fatalf("Put(%+v) = %v, %v, want %v", m, few(b), err, few(sealed(lay(m))))
	}
	if !want && (err != api.ErrArg || len(b) > 0) {
		t.Fatalf("Put(%+v), which may not be = %v, %v", m, few(b), err)
	}
	if !untouched(given, m) {
		t.Fatalf("Put(%+v) changed it", m)
	}
}

// checkIs asks that b are sealed and m's bytes: P17.1, P17.4.
func checkIs(t *testing.T, b []byte, want api.Msg) {
	t.Helper()
	got, err := enc.Get(b)
	if err != nil || !alike(got, want) {
		t.Fatalf("Get(%v) = %+v, %v, want %+v", few(b), got, err, want)
	}
	if again, err := enc.Put(got); err != nil || !bytes.Equal(again, b) {
		t.Fatalf("Put of what was got of %v = %v, %v", few(b), few(again), err)
	}
}

// checkNot asks for that error, and no message: P17.1, R3.
func checkNot(t *testing.T, b []byte, want api.Code) {
	t.Helper()
	if got, err := enc.Get(b); err != want || !reflect.ValueOf(got).IsZero() {
		t.Fatalf("Get of %d bytes, %v = %+v, %v, want %v", len(b), few(b), got, err, want)
	}
}

// checkGet asks for the message whose bytes b are, once they are sealed, or for ErrForm; it tells whether there is one.
func checkGet(t *testing.T, b []byte) bool {
	t.Helper()
	want, ok := wantGet(b)
	if ok {
		checkIs(t, sealed(b), want)
	} else {
		checkNot(t, sealed(b), api.ErrForm)
	}
	return ok
}

// checkForm asks that b, sealed, are no message's bytes.
func checkForm(t *testing.T, b []byte) {
	t.Helper()
	if checkGet(t, b) {
		t.Fatalf("the test's own reader got a message of %v", few(b))
	}
}

// checkPutState asks for s's bytes, or for none and ErrArg: P17.2, R3.
func checkPutState(t *testing.T, s api.State, want bool) {
	t.Helper()
	given := copyOf(s)
	b, err := enc.PutState(given)
	if want && (err != nil || !bytes.Equal(b, lay(s))) {
		t.Fatalf("PutState(%+v) = %v, %v, want %v", s, few(b), err, few(lay(s)))
	}
	if !want && (err != api.ErrArg || len(b) > 0) {
		t.Fatalf("PutState(%+v), which may not be = %v, %v", s, few(b), err)
	}
	if !untouched(given, s) {
		t.Fatalf("PutState(%+v) changed it", s)
	}
}

// checkGetState asks for the state whose bytes b are, or for ErrForm; it tells whether there is one: P17.2, P17.4, R3.
func checkGetState(t *testing.T, b []byte) bool {
	t.Helper()
	want, ok := wantGetState(b)
	got, err := enc.GetState(b)
	if !ok {
		if err != api.ErrForm || !reflect.ValueOf(got).IsZero() {
			t.Fatalf("GetState of %d bytes, %v = %+v, %v, want ErrForm", len(b), few(b), got, err)
		}
		return false
	}
	if err != nil || !alike(got, want) {
		t.Fatalf("GetState(%v) = %+v, %v, want %+v", few(b), got, err, want)
	}
	if again, err := enc.PutState(got); err != nil || !bytes.Equal(again, b) {
		t.Fatalf("PutState of what was got of %v = %v, %v", few(b), few(again), err)
	}
	return true
}

// checkMay asks whether m may be, whether it is put, and, if it shows in its bytes, whether it is got: P17.1, P17.4.
func checkMay(t *testing.T, m api.Msg, want bool) {
	t.Helper()
	checkPut(t, m, want)
	if got := checkGet(t, lay(m)); want && !got {
		t.Fatalf("the test's own reader got none of %+v", m)
	}
}

// within tells whether n is from least to most.
func within(n, least, most int) bool { return least <= n && n <= most }

// kinds are a message of each kind that has all that it may have.
func kinds() []api.Msg {
	return []api.Msg{asks()[1], batches()[2], dones()[6], acks()[6]}
}

func TestMayOfEachKind(t *testing.T) { // P17.1
	for _, m := range messages() {
		if !mayMsg(m) {
			t.Fatalf("the test's own sentences refuse %+v", m)
		}
		checkMay(t, m, true)
	}
	for i, m := range kinds() {
		checkMay(t, m, true)
		for _, n := range numbers() {
			m.Kind = n
			// What one kind has another one hasn't.
			checkMay(t, m, n == i+1)
		}
	}
	for _, n := range numbers() {
		checkMay(t, api.Msg{Kind: n, From: 1, To: 2}, n == api.Ack)
		checkMay(t, api.Msg{Kind: n, From: 1, To: 2, Turn: 1}, n == api.Batch || n == api.Done)
		checkMay(t, api.Msg{Kind: n, From: 1, To: 2, F: star}, n == api.Ask)
	}
	checkMay(t, api.Msg{}, false)
}

func TestMayNumbers(t *testing.T) { // P17.1
	for _, m := range kinds() {
		was := m
		answer := m.Kind == api.Batch || m.Kind == api.Done
		for _, n := range numbers() {
			m.From = n
			checkMay(t, m, within(n, 1, 8) && n != m.To)
			m = was
			m.To = n
			checkMay(t, m, within(n, 1, 8) && n != m.From)
			m.From = n
			checkMay(t, m, false)
			m = was
			m.Sid = n
			checkMay(t, m, n == 0 || m.Kind != api.Ack && within(n, 0, 1000000))
			m = was
			m.Turn = n
			checkMay(t, m, n == 0 && !answer || answer && within(n, 1, 1000000))
			m = was
			m.N = n
			checkMay(t, m, n == 0 || answer && within(n, 0, 40))
			m = was
		}
		for from := range 10 {
			for to := range 10 {
				m.From, m.To = from, to
				checkMay(t, m, within(from, 1, 8) && within(to, 1, 8) && from != to)
			}
		}
	}
}

func TestMayLengths(t *testing.T) { // P17.1
	one := stays(made("a", 3, 2, 5, 6))
	for n := range 44 {
		checkMay(t, api.Msg{Kind: api.Ask, From: 1, To: 2, F: star, Have: haves(n)}, n <= 40)
		checkMay(t, api.Msg{Kind: api.Batch, From: 1, To: 2, Turn: 1, L: leave(n)}, n <= 4)
		checkMay(t, api.Msg{Kind: api.Batch, From: 1, To: 2, Turn: 1, L: slices.Repeat([]api.Entry{one}, n)}, n <= 4)
		checkMay(t, api.Msg{Kind: api.Done, From: 1, To: 2, Turn: 1, L: leave(n)}, n <= 40)
		// Of entries Ids needn't rise.
		checkMay(t, api.Msg{Kind: api.Done, From: 1, To: 2, Turn: 1, L: slices.Repeat(leave(1), n)}, n <= 40)
	}
	m := api.Msg{Kind: api.Done, From: 1, To: 2, Turn: 1, L: leave(40)}
	slices.Reverse(m.L)
	checkMay(t, m, true)
	m.Kind, m.L = api.Batch, m.L[:4]
	checkMay(t, m, true)
}

// TestMayUnnamed asks of a message of each kind with a field that isn't named for it, by itself, and of one without lists.
func TestMayUnnamed(t *testing.T) { // P17.1
	type change struct {
		kinds string // those for which it isn't named
		do    func(m *api.Msg)
	}
	for _, c := range []change{
		{"4", func(m *api.Msg) { m.Sid = 1 }}, {"4", func(m *api.Msg) { m.Sid = -1 }}, {"14", func(m *api.Msg) { m.Turn = 1 }}, {"14", func(m *api.Msg) { m.Turn = -1 }}, {"14", func(m *api.Msg) { m.N = 1 }}, {"14", func(m *api.Msg) { m.N = -1 }},
		{"234", func(m *api.Msg) { m.F = star }}, {"234", func(m *api.Msg) { m.F.Op = -1 }}, {"234", func(m *api.Msg) { m.F.Text = "a" }}, {"234", func(m *api.Msg) { m.F.N = -1 }}, {"234", func(m *api.Msg) { m.F.At = 1i }}, {"234", func(m *api.Msg) { m.F.At = complex(math.NaN(), 0) }}, {"234", func(m *api.Msg) { m.F.Kids = make([]api.Pred, 1) }},
		{"2", func(m *api.Msg) { m.K.Star[0] = 1 }}, {"2", func(m *api.Msg) { m.K.Star[7] = -1 }}, {"2", func(m *api.Msg) { m.K.L = make([]api.Frag, 1) }}, {"2", func(m *api.Msg) { m.K.L = []api.Frag{frag(api.Vec{1}, "a")} }}, {"2", func(m *api.Msg) { m.K.L = []api.Frag{frag(api.Vec{}, "a")} }},
		{"234", func(m *api.Msg) { m.Have = make([]api.Has, 1) }}, {"234", func(m *api.Msg) { m.Have = haves(1) }}, {"14", func(m *api.Msg) { m.L = make([]api.Entry, 1) }}, {"14", func(m *api.Msg) { m.L = leave(1) }}, {"123", func(m *api.Msg) { m.Star = true }},
	} {
		for _, kind := range c.kinds {
			full := kinds()[kind-'1']
			bare := api.Msg{Kind: full.Kind, From: 1, To: 2}
			if kind == '1' {
				bare.F = star
			} else if kind != '4' {
				bare.Turn = 1
			}
			checkMay(t, full, true)
			checkMay(t, bare, true)
			c.do(&full)
			c.do(&bare)
			checkMay(t, full, false)
			checkMay(t, bare, false)
		}
	}
	// What isn't named may be none, or empty; and -0 is 0.
	for _, m := range kinds() {
		if m.Kind != api.Ask {
			m.F.Kids, m.F.At, m.Have = []api.Pred{}, complex(minus0, minus0), []api.Has{}
		}
		if m.Kind == api.Batch {
			m.K.L = []api.Frag{}
		}
		if m.Kind == api.Ask || m.Kind == api.Ack {
			m.L = []api.Entry{}
		}
		checkMay(t, m, true)
	}
}

func TestMayStar(t *testing.T) { // P17.1
	for i, m := range kinds() {
		m.Star = true
		checkMay(t, m, i == 3)
		m.Star = false
		checkMay(t, m, true)
	}
	ack := kinds()[3]
	for _, n := range numbers() {
		b := lay(4, ack.From, ack.To, ack.K, n)
		if got := checkGet(t, b); got != within(n, 0, 1) {
			t.Fatalf("an Ack with a Star of %d is got: %v", n, got)
		}
	}
}

func TestMayKnow(t *testing.T) { // P17.1
	for i, m := range kinds() {
		for _, k := range knowns() {
			m.K = k
			checkMay(t, m, i != 1 || know.Same(k, api.Know{}))
		}
		for _, k := range oddKnowns() {
			m.K = k
			checkMay(t, m, false)
			if i != 1 {
				checkForm(t, lay(m))
			}
		}
	}
}

func TestMayEntries(t *testing.T) { // P17.1
	for i, m := range kinds()[1:3] {
		done := i == 1
		for _, e := range entries() {
			alone := e.Goes && e.New == ver(0, 0)
			for _, l := range [][]api.Entry{{e}, {leave(1)[0], e}, {e, leave(1)[0]}, {leave(1)[0], e, leave(2)[1], leave(3)[2]}} {
				m.L = l
				checkMay(t, m, !done || alone)
			}
		}
		for _, e := range oddEntries() {
			for _, l := range [][]api.Entry{{e}, {leave(1)[0], e}, {e, leave(1)[0]}, {leave(1)[0], leave(2)[1], leave(3)[2], e}} {
				m.L = l
				checkMay(t, m, false)
			}
		}
	}
}

func TestMayFiltersAndHave(t *testing.T) { // P17.1
	m := asks()[1]
	for _, f := range filters() {
		m.F = f
		checkMay(t, m, true)
	}
	for _, f := range oddFilters() {
		m.F = f
		checkMay(t, m, false)
	}
	for _, l := range [][]api.Has{
		{has("", 1, 1, 1)}, {has("A", 1, 1, 1)}, {has("abcdefghi", 1, 1, 1)}, {has("a", 0, 1, 1)}, {has("a", 9, 1, 1)}, {has("a", 1, 0, 1)}, {has("a", 1, 1001, 1)}, {has("a", 1, 1, 0)}, {has("a", 1, 1, -1)}, {has("a", 1, 1, 1000001)},
		{has("a", 1, 1, 1), has("a", 1, 1, 1)}, {has("a", 1, 1, 1), has("a", 2, 2, 2)}, {has("b", 1, 1, 1), has("a", 1, 1, 1)}, {has("a", 1, 1, 1), has("c", 1, 1, 1), has("b", 1, 1, 1)}, {{}}, {has("a", 1, 1, 1), {}},
	} {
		m = asks()[1]
		m.Have = l
		checkMay(t, m, false)
		checkForm(t, lay(m))
	}
}

// written are messages whose bytes, but for the sum, are written out.
func written() []struct {
	m api.Msg
	b []byte
} {
	return []struct {
		m api.Msg
		b []byte
	}{
		{api.Msg{Kind: api.Ack, From: 1, To: 2, Star: true}, []byte{8, 2, 4, 0, 0, 0, 0, 0, 0, 0, 0, 0, 2}},
		{api.Msg{Kind: api.Ack, From: 8, To: 7, K: api.Know{Star: api.Vec{1, 0, 64, 7: 1000}, L: []api.Frag{frag(api.Vec{6: 2}, "a", "zz"), frag(api.Vec{2}, "b")}}},
			[]byte{8, 16, 14, 2, 0, 128, 1, 0, 0, 0, 0, 208, 15, 4, 4, 2, 'a', 4, 'z', 'z', 0, 0, 0, 0, 0, 0, 4, 0, 2, 2, 'b', 4, 0, 0, 0, 0, 0, 0, 0, 0}},
		{api.Msg{Kind: api.Ask, From: 3, To: 4, F: api.Pred{Op: api.None}}, []byte{2, 6, 8, 0, 4, 0, 0, 0, 0, 0, 0, 0, 0, 0, 0}},
		{api.Msg{
			Kind: api.Ask, From: 8, To: 1, Sid: 64, F: and(less(-1), more(0), kind("ab")),
			K:    api.Know{Star: api.Vec{1, 7: 63}, L: []api.Frag{frag(api.Vec{0, 1000}, "a", "bc")}},
			Have: []api.Has{has("a", 1, 1, 1), has("bc", 8, 1000, 1000000)},
		}, []byte{
			2, 16, 2, 128, 1, 16, 6, 10, 1, 12, 0, 6, 4, 'a', 'b', 2, 0, 0, 0, 0, 0, 0, 126, 2, 4, 2, 'a', 4, 'b', 'c', 0, 208, 15, 0, 0, 0, 0, 0, 0,
			4, 2, 'a', 2, 2, 2, 4, 'b', 'c', 16, 208, 15, 128, 137, 122,
		}},
		{api.Msg{Kind: api.Batch, From: 2, To: 1, Turn: 1}, []byte{4, 4, 2, 0, 2, 0, 0}},
		{api.Msg{Kind: api.Batch, From: 6, To: 5, Sid: 1000000, Turn: 63, N: 40, L: []api.Entry{
			stays(api.Item{Id: "abcdefgh", Ver: ver(7, 65), Stamp: 3, Kind: "xy", Num: -1000000, At: -3 + 64i, Dead: true}), stays(api.Item{Id: "b", Ver: ver(1, 2), Stamp: 4, At: 5 - 1000i}),
			goes("cd", ver(3, 4), ver(5, 6)), goes("e", ver(8, 1), ver(0, 0)),
		}}, []byte{
			4, 12, 10, 128, 137, 122, 126, 80, 8,
			0, 16, 'a', 'b', 'c', 'd', 'e', 'f', 'g', 'h', 14, 130, 1, 6, 4, 'x', 'y', 255, 136, 122, 5, 128, 1, 2,
			0, 2, 'b', 2, 4, 8, 0, 0, 10, 207, 15, 0,
			2, 4, 'c', 'd', 6, 8, 10, 12, 2, 2, 'e', 16, 2, 0, 0,
		}},
		{api.Msg{Kind: api.Done, From: 1, To: 8, Turn: 1}, []byte{6, 2, 16, 0, 2, 0, 0, 0, 0, 0, 0, 0, 0, 0, 0, 0}},
		{api.Msg{Kind: api.Done, From: 1, To: 2, Sid: 5, Turn: 6, N: 7, K: api.Know{Star: api.Vec{1, 2, 3, 4, 5, 6, 7, 8}, L: []api.Frag{frag(api.Vec{9}, "q")}}, L: []api.Entry{goes("b", ver(1, 2), ver(0, 0)), goes("a", ver(3, 4), ver(0, 0))}},
			[]byte{6, 2, 4, 10, 12, 14, 2, 4, 6, 8, 10, 12, 14, 16, 2, 2, 2, 'q', 18, 0, 0, 0, 0, 0, 0, 0, 4, 2, 2, 'b', 2, 4, 0, 0, 2, 2, 'a', 6, 8, 0, 0}},
	}
}

func TestWritten(t *testing.T) { // P17.1, P17.4
	for _, c := range written() {
		if got, err := enc.Put(c.m); err != nil || !bytes.Equal(got, sealed(c.b)) {
			t.Errorf("Put(%+v) = %v, %v, want %v", c.m, got, err, c.b)
		}
		checkIs(t, sealed(c.b), c.m)
	}
}

// TestFilterBytes asks for filters' bytes in an Ask and in a state.
func TestFilterBytes(t *testing.T) { // P17.1, P17.2, P17.4
	zero := make([]byte, 10)
	for _, c := range []struct {
		f api.Pred
		b []byte
	}{
		{star, []byte{2}}, {none, []byte{4}}, {kind(""), []byte{6, 0}}, {kind("pot"), []byte{6, 6, 'p', 'o', 't'}}, {prefix(""), []byte{8, 0}}, {prefix("abcdefgh"), []byte{8, 16, 'a', 'b', 'c', 'd', 'e', 'f', 'g', 'h'}},
		{less(-5), []byte{10, 9}}, {less(1000000), []byte{10, 128, 137, 122}}, {more(64), []byte{12, 128, 1}}, {more(-1000000), []byte{12, 255, 136, 122}},
		{near(0, 0), []byte{14, 0, 0, 0}}, {near(-3+4i, 25), []byte{14, 5, 8, 50}}, {near(3-4i, 1), []byte{14, 6, 7, 2}}, {near(-1000-1000i, 8000000), []byte{14, 207, 15, 207, 15, 128, 200, 208, 7}}, {near(1000-64i, 2), []byte{14, 208, 15, 127, 4}}, {near(complex(minus0, minus0), 2), []byte{14, 0, 0, 4}},
		{and(), []byte{16, 0}}, {or(), []byte{18, 0}}, {or(star, none), []byte{18, 4, 2, 4}}, {and(or(), less(0), and(star)), []byte{16, 6, 18, 0, 10, 0, 16, 2, 2}}, {not(star), []byte{20, 2}}, {not(and(star)), []byte{20, 16, 2, 2}}, {not(or(kind("a"), not(none))), []byte{20, 18, 4, 6, 2, 'a', 20, 4}},
		{deep(6), []byte{20, 20, 20, 20, 20, 2}}, {wide(30), append([]byte{18, 58}, bytes.Repeat([]byte{2}, 29)...)},
	} {
		m := api.Msg{Kind: api.Ask, From: 1, To: 2, F: c.f}
		b := slices.Concat([]byte{2, 2, 4, 0}, c.b, zero)
		if got, err := enc.Put(m); err != nil || !bytes.Equal(got, sealed(b)) {
			t.Errorf("Put of an Ask of %+v = %v, %v, want %v", c.f, got, err, b)
		}
		checkIs(t, sealed(b), m)
		s := api.State{R: 7, F: c.f, Count: 1}
		b = slices.Concat([]byte{14}, c.b, zero, []byte{0, 2, 0, 0})
		if got, err := enc.PutState(s); err != nil || !bytes.Equal(got, b) {
			t.Errorf("PutState of %+v = %v, %v, want %v", c.f, got, err, b)
		}
		if got, err := enc.GetState(b); err != nil || !alike(got, s) {
			t.Errorf("GetState(%v) = %+v, %v, want %+v", b, got, err, s)
		}
	}
}

// asking are the bytes of an Ask, and of a state, with those of a filter in them.
func asking(filter []byte) (ask, state []byte) {
	zero := make([]byte, 10)
	return slices.Concat([]byte{2, 2, 4, 0}, filter, zero), slices.Concat([]byte{14}, filter, zero, []byte{0, 2, 0, 0})
}

// TestFilterBytesBeyond asks of bytes with filters that are larger, or deeper, than may be, or no filters at all.
func TestFilterBytesBeyond(t *testing.T) { // P17.1, P17.2, P1
	repeat := func(n int, b ...byte) []byte { return bytes.Repeat(b, n) }
	l := [][]byte{{}, {0}, {1}, {22}, {24}, {128, 1}, {130, 0}, {18, 2, 0}, {16, 4, 2}, {20}, {20, 22}, {254, 255, 255, 255, 15}, {255, 255, 255, 255, 15}, {16, 1}, {18, 1, 2}, {16, 3, 2, 2}, {18, 255, 255, 255, 255, 15, 2}}
	for _, n := range []int{7, 8, 30, 31, 100, 1000, 1 << 16, 1 << 19} {
		l = append(l, append(repeat(n-1, 20), 2), append(repeat(n-1, 16, 2), 4), append(repeat(n-1, 18, 2), 16, 0), append(repeat(n-1, 16, 2, 20), 2), repeat(n, 20), repeat(n, 16, 2), repeat(n, 18, 4))
		// Of many Kids at each level, of which there are none.
		l = append(l, repeat(n, 16, 254, 255, 255, 255, 15), repeat(n, 18, 128, 128, 1))
	}
	for _, n := range []int{30, 31, 32, 1000, 1 << 16, 1 << 19} {
		l = append(l, append(lay(9, n), repeat(n, 2)...), append(lay(8, n), repeat(n, 16, 0)...), append(lay(10, 8, n), repeat(n, 18, 0)...), append(lay(9, n), repeat(n, 20, 4)...))
	}
	for _, b := range l {
		ask, state := asking(b)
		checkForm(t, ask)
		if checkGetState(t, state) {
			t.Fatalf("the test's own reader got a state with the filter %v", few(b))
		}
	}
	// One part less, one level less.
	for _, b := range [][]byte{append(repeat(5, 20), 2), append(repeat(5, 16, 2), 4), append(lay(9, 29), repeat(29, 2)...), append(lay(10, 8, 28), repeat(28, 18, 0)...), append(lay(9, 14), repeat(14, 20, 4)...)} {
		ask, state := asking(b)
		if !checkGet(t, ask) || !checkGetState(t, state) {
			t.Fatalf("the test's own reader got none of %v", b)
		}
	}
}

func TestPlaces(t *testing.T) { // P17.1, P17.4
	for _, x := range []float64{-1000, -999, -65, -64, -63, -1, minus0, 0, 1, 63, 64, 65, 999, 1000} {
		for _, y := range []float64{-1000, -64, -1, minus0, 0, 1, 64, 1000} {
			e := stays(made("a", 3, 2, 5, 6))
			e.Item.At = complex(x, y)
			checkMay(t, api.Msg{Kind: api.Batch, From: 1, To: 2, Turn: 1, L: []api.Entry{e}}, true)
			checkMay(t, api.Msg{Kind: api.Ask, From: 1, To: 2, F: near(complex(x, y), 7)}, true)
		}
	}
	for _, c := range []complex128{1001, -1001, 1001i, -1001i, 1000 + 1001i, -1001 - 1000i} {
		e := stays(made("a", 3, 2, 5, 6))
		e.Item.At = c
		checkMay(t, api.Msg{Kind: api.Batch, From: 1, To: 2, Turn: 1, L: []api.Entry{e}}, false)
		checkMay(t, api.Msg{Kind: api.Ask, From: 1, To: 2, F: near(c, 7)}, false)
	}
}

// bodies are the bytes of messages that may be, but for the sum.
func bodies() [][]byte {
	var l [][]byte
	for _, m := range messages() {
		l = append(l, lay(m))
	}
	for _, c := range written() {
		l = append(l, c.b)
	}
	return l
}

func TestGetNotSealed(t *testing.T) { // P17.1, R1
	for _, b := range [][]byte{nil, {}, {0}, {0, 0, 0}, {0, 0, 0, 1}, {255, 255, 255, 255, 1}, make([]byte, 100), bytes.Repeat([]byte{255}, 99)} {
		checkNot(t, b, api.ErrSum)
	}
	for _, b := range bodies() {
		checkNot(t, b, api.ErrSum)
		whole := sealed(b)
		for n := range whole {
			checkNot(t, whole[:n], api.ErrSum)
		}
		checkNot(t, whole[1:], api.ErrSum)
		for _, tail := range [][]byte{{0}, {1}, {255}, {0, 0, 0, 0}, whole} {
			checkNot(t, slices.Concat(whole, tail), api.ErrSum)
		}
	}
	// Of none, sealed, there is none.
	checkNot(t, []byte{0, 0, 0, 0}, api.ErrForm)
}

// TestGetTurned turns each byte to each other value: sealed bytes first, which is ErrSum, then such as are sealed behind it.
func TestGetTurned(t *testing.T) { // P17.1, P17.4
	for i, b := range bodies() {
		whole := sealed(b)
		step := 1
		if len(b) > 150 {
			step = 7
		}
		for at := i % step; at < len(whole); at += step {
			for x := 1; x < 256; x++ {
				whole[at] ^= byte(x)
				checkNot(t, whole, api.ErrSum)
				if at < len(b) && (x+i)%3 == 0 {
					checkGet(t, whole[:len(b)])
				}
				whole[at] ^= byte(x)
			}
		}
	}
}

// TestGetCutOff cuts bytes off, and puts some behind and between, and seals them then.
func TestGetCutOff(t *testing.T) { // P17.1
	for _, b := range bodies() {
		for n := range b {
			checkForm(t, b[:n])
			checkGet(t, b[n:])
			checkGet(t, slices.Delete(slices.Clone(b), n, n+1))
			for _, x := range []byte{0, 1, 2, 4, 'a', 128, 255} {
				checkGet(t, slices.Insert(slices.Clone(b), n, x))
			}
			// A number that Num doesn't tell: of several digits, of which the last one is 0.
			if b[n] < 128 {
				checkGet(t, slices.Concat(b[:n], []byte{b[n] + 128, 0}, b[n+1:]))
				checkGet(t, slices.Concat(b[:n], []byte{b[n] + 128, 128, 128, 128, 128, 0}, b[n+1:]))
			}
		}
		for _, tail := range [][]byte{{0}, {1}, {2}, {255}, {0, 0}, {0, 0, 0, 0}, b} {
			checkForm(t, slices.Concat(b, tail))
			checkGet(t, slices.Concat(tail, b))
		}
		// Sealed twice.
		checkForm(t, sealed(b))
	}
}

// TestGetOddNumbers asks of messages in which one number isn't as Num tells it: each one that there is.
func TestGetOddNumbers(t *testing.T) { // P17.1
	odd := []any{[]byte{130, 0}, []byte{130, 128, 0}, []byte{130, 128, 128, 128, 0}, []byte{130, 128, 128, 128, 128, 0}, []byte{128, 128, 128, 128, 16}, []byte{130, 128, 128, 128, 16}, []byte{130, 128, 128, 128, 128, 1}, []byte{255, 255, 255, 255, 31}, bytes.Repeat([]byte{255}, 12), 1 << 31, -1<<31 - 1, 1<<32 + 1, 1<<40 + 1}
	id := []byte("a")
	k := []any{1, 1, 1, 1, 1, 1, 1, 1, 1, 1, 1, id, 2, 2, 2, 2, 2, 2, 2, 2}
	for _, l := range [][]any{
		slices.Concat([]any{1, 1, 2, 1, 9, 4, 5, 1, 6, 1, 7, 1, 1, 1, 10, 3, 1, id}, k, []any{1, 1, id, 1, 1, 1}),
		{2, 1, 2, 1, 1, 1, 2, 0, 1, id, 1, 1, 1, 1, id, 1, 1, 1, 1, 1, 1, id, 1, 1, 1, 1},
		slices.Concat([]any{3, 1, 2, 1, 1, 1}, k, []any{1, 1, 1, id, 1, 1, 0, 0}),
		slices.Concat([]any{4, 1, 2}, k, []any{1}),
	} {
		if !checkGet(t, lay(l...)) {
			t.Fatalf("the test's own reader got none of %v", l)
		}
		for i, was := range l {
			if _, number := was.(int); !number {
				continue
			}
			for _, x := range odd {
				l[i] = x
				checkForm(t, lay(l...))
			}
			// One of the same number, of a digit more.
			b := lay(was)
			l[i] = []byte{b[0] + 128, 0}
			checkForm(t, lay(l...))
			l[i] = was
		}
	}
}

// TestGetFlags asks of what tells an item, or what goes, or whether an item is Dead, that it is 1 or 0.
func TestGetFlags(t *testing.T) { // P17.1, P17.2
	x := made("a", 3, 2, 5, 6)
	for _, n := range numbers() {
		for _, b := range [][]byte{
			lay(2, 1, 2, 1, 1, 0, 1, n, "a", ver(1, 1), ver(0, 0)), lay(2, 1, 2, 1, 1, 0, 1, n, "a", ver(1, 1), ver(1, 1)), lay(3, 1, 2, 1, 1, 0, api.Know{}, 1, n, "a", ver(1, 1), ver(0, 0)),
		} {
			if got := checkGet(t, b); got != (n == 1) {
				t.Fatalf("an entry that goes, of %d, is got: %v", n, got)
			}
		}
		if got := checkGet(t, lay(2, 1, 2, 1, 1, 0, 1, n, x)); got != (n == 0) {
			t.Fatalf("an entry that is an item, of %d, is got: %v", n, got)
		}
		if got := checkGet(t, lay(2, 1, 2, 1, 1, 0, 1, 0, x.Id, x.Ver, x.Stamp, x.Kind, x.Num, x.At, n)); got != within(n, 0, 1) {
			t.Fatalf("an item that is Dead by %d is got: %v", n, got)
		}
		s := lay(2, star, 1, x.Id, x.Ver, x.Stamp, x.Kind, x.Num, x.At, n, 0, api.Know{Star: api.Vec{0, 5}}, 5, 6, 0)
		if got := checkGetState(t, s); got != within(n, 0, 1) {
			t.Fatalf("a state with an item that is Dead by %d is got: %v", n, got)
		}
	}
}

// TestGetKinds asks of messages, and filters, of each number.
func TestGetKinds(t *testing.T) { // P17.1
	for _, n := range append(numbers(), -2, 11, 12, 13, 14, 15, 16, 17, 18, 19, 20, 127, 128, 255) {
		for i, rest := range [][]byte{
			lay(1, 2, 3, star, api.Know{}, 0), lay(1, 2, 3, 4, 5, 0), lay(1, 2, 3, 4, 5, api.Know{}, 0), lay(1, 2, api.Know{}, 1), lay(1, 2), {},
		} {
			if got := checkGet(t, append(lay(n), rest...)); got != (i < 4 && n == i+1) {
				t.Fatalf("a message of kind %d, %v, is got: %v", n, rest, got)
			}
		}
		for i, rest := range [][]byte{{}, lay("pot"), lay(7), lay(1i, 7), lay(2, star, star), lay(star)} {
			// Of those that begin alike another Op may be told by them, too.
			kinds := [][]int{{1, 2}, {3, 4}, {5, 6}, {7}, {7, 8, 9}, {5, 6, 10}}[i]
			ask, state := asking(append(lay(n), rest...))
			got := checkGet(t, ask)
			if checkGetState(t, state) != got || slices.Contains(kinds, n) != got {
				t.Fatalf("a filter of Op %d, %v, is got: %v", n, rest, got)
			}
		}
	}
}

// TestGetMany asks of bytes that tell each number of things that are to follow, with one there, or two.
func TestGetMany(t *testing.T) { // P17.1, P17.2
	k, zero := api.Know{Star: api.Vec{0, 5}}, api.Vec{}
	x, y := made("a", 3, 2, 5, 6), made("b", 3, 2, 4, 5)
	for _, n := range append(numbers(), 11, 12, 100, 128, 1<<16, 1<<20, 1<<27) {
		for _, c := range []struct {
			there int
			b     []byte
		}{
			{1, lay(1, 1, 2, 3, star, k, n, haves(1)[0])}, {2, lay(1, 1, 2, 3, star, k, n, haves(2)[0], haves(2)[1])}, {1, lay(1, 1, 2, 3, 9, n, star, k, 0)}, {2, lay(1, 1, 2, 3, 8, n, star, none, k, 0)}, {1, lay(1, 1, 2, 3, star, zero, n, frag(api.Vec{1}, "a"), 0)},
			{1, lay(2, 1, 2, 3, 4, 5, n, leave(1)[0])}, {1, lay(2, 1, 2, 3, 4, 5, n, stays(x))}, {4, lay(2, 1, 2, 3, 4, 5, n, stays(x), leave(1)[0], leave(1)[0], stays(y))}, {1, lay(3, 1, 2, 3, 4, 5, k, n, leave(1)[0])}, {3, lay(3, 1, 2, 3, 4, 5, k, n, leave(1)[0], leave(1)[0], leave(1)[0])},
			{1, lay(4, 1, 2, zero, n, frag(api.Vec{1}, "a"), true)}, {2, lay(4, 1, 2, zero, n, frag(api.Vec{1}, "a", "c"), frag(api.Vec{2}, "b"), true)}, {1, lay(4, 1, 2, zero, 1, n, "a", api.Vec{1}, true)}, {2, lay(4, 1, 2, zero, 1, n, "a", "b", api.Vec{1}, false)}, {0, lay(4, 1, 2, zero, n, true)},
		} {
			if got := checkGet(t, c.b); got != (n == c.there) {
				t.Fatalf("%v, which tells %d things of %d, is got: %v", c.b, n, c.there, got)
			}
		}
		for i, b := range [][]byte{
			lay(2, star, n, x, 0, k, 5, 6, 0), lay(2, none, 0, n, x, k, 5, 6, 0), lay(2, star, 0, 0, zero, n, frag(api.Vec{1}, "a"), 5, 6, 0), lay(2, star, 0, 0, zero, 1, n, "a", api.Vec{1}, 5, 6, 0), lay(2, 9, n, star, 0, 0, k, 5, 6, 0),
			lay(2, star, n, x, y, 0, k, 5, 6, 0), lay(2, none, 0, n, x, y, k, 5, 6, 0),
		} {
			if got := checkGetState(t, b); got != (n == 1+i/5) {
				t.Fatalf("%v, which tells %d things, is got: %v", b, n, got)
			}
		}
	}
}

// TestGetVersions asks of entries that go with each new version, none and half none among them.
func TestGetVersions(t *testing.T) { // P17.1
	for _, r := range numbers() {
		for _, c := range numbers() {
			may := within(r, 1, 8) && within(c, 1, 1000)
			if got := checkGet(t, lay(2, 1, 2, 1, 1, 0, 1, 1, "a", ver(1, 1), r, c)); got != (may || r == 0 && c == 0) {
				t.Fatalf("one that goes, with the new version %d, %d, is got: %v", r, c, got)
			}
			if got := checkGet(t, lay(3, 1, 2, 1, 1, 0, api.Know{}, 1, 1, "a", ver(1, 1), r, c)); got != (r == 0 && c == 0) {
				t.Fatalf("one of a Done, with the new version %d, %d, is got: %v", r, c, got)
			}
			if got := checkGet(t, lay(2, 1, 2, 1, 1, 0, 1, 1, "a", r, c, ver(0, 0))); got != may {
				t.Fatalf("one that goes, in version %d, %d, is got: %v", r, c, got)
			}
			if got := checkGet(t, lay(2, 1, 2, 1, 1, 0, 1, 0, "a", r, c, 1, "", 0, 0i, false)); got != may {
				t.Fatalf("an item in version %d, %d, is got: %v", r, c, got)
			}
		}
	}
}

// TestGetTexts asks of Ids, Kinds, and texts of filters, of each length, of letters and others.
func TestGetTexts(t *testing.T) { // P17.1
	for _, s := range []string{"", "a", "z", "jar", "abcdefgh", "abcdefghi", strings.Repeat("a", 64), "A", "`", "{", "a b", "a\x00", "\xff", "\xe4", "0"} {
		letters := strings.Trim(s, "abcdefghijklmnopqrstuvwxyz") == "" && len(s) <= 8
		for i, b := range [][]byte{
			lay(1, 1, 2, 3, 3, s, api.Know{}, 0), lay(1, 1, 2, 3, 4, s, api.Know{}, 0), lay(2, 1, 2, 3, 4, 5, 1, 0, "a", ver(1, 1), 1, s, 0, 0i, false),
			lay(2, 1, 2, 3, 4, 5, 1, 0, s, ver(1, 1), 1, "", 0, 0i, false), lay(2, 1, 2, 3, 4, 5, 1, 1, s, ver(1, 1), ver(0, 0)), lay(1, 1, 2, 3, star, api.Know{}, 1, s, ver(1, 1), 1), lay(4, 1, 2, api.Vec{}, 1, 1, s, api.Vec{1}, true),
		} {
			if got := checkGet(t, b); got != (letters && (i < 3 || s != "")) {
				t.Fatalf("%q in %v is got: %v", s, b, got)
			}
		}
	}
}

func TestStateWritten(t *testing.T) { // P17.2, P17.4
	s := api.State{
		R: 3, F: less(5), Store: []api.Item{made("a", -3, 3, 1, 64), dead(made("cd", 4, 1, 2, 4))}, Out: []api.Item{{Id: "b", Ver: ver(3, 2), Stamp: 2, Num: 5, At: -1000i}},
		K:     api.Know{Star: api.Vec{1, 0, 2}, L: []api.Frag{frag(api.Vec{2, 7: 1000}, "cd", "e")}},
		Count: 2, Clock: 65, Epoch: 1000000,
	}
	want := []byte{
		6, 10, 10, 4, 2, 'a', 6, 2, 128, 1, 6, 'p', 'o', 't', 5, 6, 7, 0, 4, 'c', 'd', 2, 4, 8, 6, 'p', 'o', 't', 8, 6, 7, 2,
		2, 2, 'b', 6, 4, 4, 0, 10, 0, 207, 15, 0,
		2, 0, 4, 0, 0, 0, 0, 0, 2, 4, 4, 'c', 'd', 2, 'e', 4, 0, 0, 0, 0, 0, 0, 208, 15, 4, 130, 1, 128, 137, 122,
	}
	if got, err := enc.PutState(s); err != nil || !bytes.Equal(got, want) {
		t.Errorf("PutState(%+v) = %v, %v, want %v", s, got, err, want)
	}
	if got, err := enc.GetState(want); err != nil || !alike(got, s) {
		t.Errorf("GetState(%v) = %+v, %v, want %+v", want, got, err, s)
	}
	// It isn't sealed.
	if checkGetState(t, sealed(want)) {
		t.Errorf("the test's own reader got a state of %v", sealed(want))
	}
}

func TestStates(t *testing.T) { // P17.2, P17.4
	for _, s := range states() {
		if !local.May(s) {
			t.Fatalf("%+v may not be", s)
		}
		checkPutState(t, s, true)
		b := lay(s)
		if !checkGetState(t, b) {
			t.Fatalf("the test's own reader got none of %+v", s)
		}
		if got, _ := enc.GetState(b); !alike(got, s) {
			t.Fatalf("of %+v was got %+v", s, got)
		}
		for n := range b {
			if checkGetState(t, b[:n]) {
				t.Fatalf("the test's own reader got a state of %v", few(b[:n]))
			}
			if len(b) > 400 && n%5 > 0 {
				continue
			}
			was := b[n]
			for _, x := range []byte{0, 1, 2, 3, 4, 16, 18, 20, 'a', 'z', 127, 128, was + 1, was - 1, was + 2, was - 2, was ^ 128, 255} {
				b[n] = x
				checkGetState(t, b)
				b[n] = was
				checkGetState(t, slices.Insert(slices.Clone(b), n, x))
			}
			checkGetState(t, slices.Delete(slices.Clone(b), n, n+1))
			if was < 128 {
				checkGetState(t, slices.Concat(b[:n], []byte{was + 128, 0}, b[n+1:]))
			}
		}
		for _, tail := range [][]byte{{0}, {1}, {255}, {0, 0, 0, 0}, b} {
			if checkGetState(t, slices.Concat(b, tail)) || checkGetState(t, slices.Concat(tail, b)) {
				t.Fatalf("the test's own reader got a state of %v, with %v", few(b), few(tail))
			}
		}
	}
}

func TestOddStates(t *testing.T) { // P17.2, R3
	for _, s := range oddStates() {
		if local.May(s) {
			t.Fatalf("%+v may be", s)
		}
		checkPutState(t, s, false)
		checkGetState(t, lay(s))
	}
	// Those whose bytes show it; those that aren't shown are of a field that isn't named.
	refused := 0
	for _, s := range oddStates() {
		if _, ok := wantGetState(lay(s)); !ok {
			refused++
		}
	}
	if refused < 100 || refused < len(oddStates())*8/10 {
		t.Errorf("of %d states that may not be only %d show it in their bytes", len(oddStates()), refused)
	}
}

// one tells one of l.
func one[T any](r *rand.Rand, l ...T) T { return l[r.Intn(len(l))] }

// word is a text of least to 8 letters.
func word(r *rand.Rand, least int) string {
	b := make([]byte, least+r.Intn(9-least))
	for i := range b {
		b[i] = byte('a' + r.Intn(26))
	}
	return string(b)
}

// upTo is a number from least to most, often near one of both, or near 0.
func upTo(r *rand.Rand, least, most int) int {
	return min(max(one(r, least, most, 0, least+r.Intn(most-least+1), r.Intn(130)-65, least+r.Intn(5)), least), most)
}

func anyPlace(r *rand.Rand) complex128 {
	return complex(float64(upTo(r, -1000, 1000)), float64(upTo(r, -1000, 1000)))
}

func anyVer(r *rand.Rand) api.Ver { return ver(upTo(r, 1, 8), upTo(r, 1, 1000)) }

func anyItem(r *rand.Rand) api.Item {
	return api.Item{Id: word(r, 1), Ver: anyVer(r), Stamp: upTo(r, 1, 1000000), Kind: word(r, 0), Num: upTo(r, -1000000, 1000000), At: anyPlace(r), Dead: r.Intn(2) == 0}
}

// anyFilter is one that may be, of at most so many levels; it takes its parts from left.
func anyFilter(r *rand.Rand, left *int, depth int) api.Pred {
	*left--
	p := api.Pred{Op: 1 + r.Intn(10)}
	if depth == 1 || *left < 1 {
		p.Op = one(r, 1, 2, 3, 4, 5, 6, 7, 8, 9)
	}
	switch p.Op {
	case api.Kind, api.Prefix:
		p.Text = word(r, 0)
	case api.Less, api.More:
		p.N = upTo(r, -1000000, 1000000)
	case api.Near:
		p.At, p.N = anyPlace(r), upTo(r, 0, 8000000)
	case api.And, api.Or:
		for depth > 1 && *left > 0 && r.Intn(5) > 0 {
			p.Kids = append(p.Kids, anyFilter(r, left, depth-1))
		}
	case api.Not:
		p.Kids = []api.Pred{anyFilter(r, left, depth-1)}
	}
	return p
}

func anyVec(r *rand.Rand, most int) api.Vec {
	var v api.Vec
	for i := range v {
		v[i] = upTo(r, 0, most) * r.Intn(2)
	}
	return v
}

func anyKnow(r *rand.Rand) api.Know {
	k := api.Know{Star: anyVec(r, 1000)}
	for range r.Intn(6) {
		f := frag(anyVec(r, 1000))
		for range 1 + r.Intn(4) {
			f.Ids = append(f.Ids, word(r, 1))
		}
		k.L = append(k.L, f)
	}
	return know.Plain(k)
}

// anyMsg is a message that may be, of any kind.
func anyMsg(r *rand.Rand) api.Msg {
	m := api.Msg{Kind: 1 + r.Intn(4), From: 1 + r.Intn(8)}
	m.To = (m.From+r.Intn(7))%8 + 1
	if m.Kind == api.Ack {
		m.K, m.Star = anyKnow(r), r.Intn(2) == 0
		return m
	}
	m.Sid = upTo(r, 0, 1000000)
	if m.Kind == api.Ask {
		left := one(r, 1, 5, 30)
		m.F, m.K = anyFilter(r, &left, 6), anyKnow(r)
		for i := range one(r, 0, 1, 3, 40) {
			m.Have = append(m.Have, api.Has{Id: name(i*3 + r.Intn(3)), Ver: anyVer(r), Stamp: upTo(r, 1, 1000000)})
		}
		return m
	}
	m.Turn, m.N = upTo(r, 1, 1000000), upTo(r, 0, 40)
	if m.Kind == api.Done {
		m.K = anyKnow(r)
		for range one(r, 0, 1, 3, 40) {
			m.L = append(m.L, goes(word(r, 1), anyVer(r), ver(0, 0)))
		}
		return m
	}
	for range r.Intn(5) {
		m.L = append(m.L, one(r, stays(anyItem(r)), goes(word(r, 1), anyVer(r), ver(0, 0)), goes(word(r, 1), anyVer(r), anyVer(r))))
	}
	return m
}

// anyState is what comes of some deeds.
func anyState(r *rand.Rand) api.State {
	left := one(r, 1, 5, 30)
	s, _ := local.New(1+r.Intn(8), anyFilter(r, &left, 6))
	for range one(r, 0, 1, 10, 60) {
		id := name(r.Intn(one(r, 5, 100)))
		switch r.Intn(9) {
		case 0:
			left = 10
			s, _ = local.Filter(s, anyFilter(r, &left, 4))
		case 1:
			s, _ = local.Delete(s, id)
		case 2, 3:
			s, _ = local.Update(s, id, word(r, 0), upTo(r, -1000000, 1000000), anyPlace(r))
		case 4, 5:
			x := anyItem(r)
			x.Stamp = upTo(r, 1, 500)
			s, _ = recv.Item(s, x)
		default:
			s, _ = local.Create(s, id, word(r, 0), upTo(r, -1000000, 1000000), anyPlace(r))
		}
	}
	return s
}

// TestThereAndBack puts and gets messages and states of any sort.
func TestThereAndBack(t *testing.T) { // P17.4, P17.1, P17.2
	r := rand.New(rand.NewSource(17))
	for range 20000 {
		m := anyMsg(r)
		if !mayMsg(m) {
			t.Fatalf("%+v may not be", m)
		}
		b, err := enc.Put(m)
		if err != nil || !enc.May(m) || !bytes.Equal(b, sealed(lay(m))) {
			t.Fatalf("Put(%+v) = %v, %v, want %v", m, few(b), err, few(lay(m)))
		}
		checkIs(t, b, m)
		b[r.Intn(len(b))] ^= byte(1 + r.Intn(255))
		checkNot(t, b, api.ErrSum)
	}
	for range 3000 {
		s := anyState(r)
		b, err := enc.PutState(s)
		if err != nil || !bytes.Equal(b, lay(s)) {
			t.Fatalf("PutState(%+v) = %v, %v, want %v", s, few(b), err, few(lay(s)))
		}
		if got, err := enc.GetState(b); err != nil || !alike(got, s) {
			t.Fatalf("GetState(%v) = %+v, %v, want %+v", few(b), got, err, s)
		}
		checkGetState(t, b)
	}
}

// apart asks that no place in memory is told twice.
func apart(t *testing.T, all ...any) {
	t.Helper()
	var l []uintptr
	for _, x := range all {
		l = places(l, reflect.ValueOf(x))
	}
	slices.Sort(l)
	if len(slices.Compact(slices.Clone(l))) != len(l) {
		t.Fatalf("two lists share memory among %+v", all)
	}
}

// checkNew puts and gets x, and asks for new memory both ways: P17.3, R2.
func checkNew[T any](t *testing.T, was T, put func(x T) ([]byte, error), get func(b []byte) (T, error)) {
	t.Helper()
	given := copyOf(was)
	b, err := put(given)
	again, _ := put(given)
	want := slices.Clone(b)
	if err != nil || !untouched(given, was) {
		t.Fatalf("%+v, put, is %+v, %v", was, given, err)
	}
	apart(t, b, again, given)
	overwrite(given)
	if !bytes.Equal(b, want) || !bytes.Equal(again, want) {
		t.Fatalf("what was put of %+v, written over, is %v", was, b)
	}
	given = copyOf(was)
	b, _ = put(given)
	overwrite(b)
	if again, err := put(given); !untouched(given, was) || err != nil || !bytes.Equal(again, want) {
		t.Fatalf("the bytes of %+v are written over: %+v, %v", was, given, err)
	}
	told := copyOf(want)
	x, err := get(told)
	y, _ := get(told)
	if err != nil || !untouched(told, want) {
		t.Fatalf("%v, got, are %v, %v", want, told, err)
	}
	apart(t, x, y, told)
	overwrite(told)
	if !alike(x, was) || !alike(y, was) {
		t.Fatalf("what was got of %v, written over, is %+v, %+v", want, x, y)
	}
	told = copyOf(want)
	x, _ = get(told)
	overwrite(x)
	if z, err := get(told); !untouched(told, want) || err != nil || !alike(z, was) {
		t.Fatalf("what was got of %v is written over: %v, %+v, %v", want, told, z, err)
	}
}

func TestNewMemory(t *testing.T) { // P17.3, R2
	r := rand.New(rand.NewSource(3))
	for _, m := range messages() {
		checkNew(t, m, enc.Put, enc.Get)
	}
	for _, s := range states() {
		checkNew(t, s, enc.PutState, enc.GetState)
	}
	for range 500 {
		checkNew(t, anyMsg(r), enc.Put, enc.Get)
		checkNew(t, anyState(r), enc.PutState, enc.GetState)
	}
	// What is no message, and no state, stays, too.
	for _, b := range append(bodies(), []byte{1, 2, 3}, bytes.Repeat([]byte{255}, 40)) {
		told, whole := copyOf(b), copyOf(sealed(append(b, 0)))
		enc.Get(told)
		enc.GetState(told)
		enc.Get(whole)
		if !untouched(told, b) || !untouched(whole, sealed(append(b, 0))) {
			t.Fatalf("%v, asked, are %v, %v", b, told, whole)
		}
	}
	for _, s := range oddStates() {
		checkPutState(t, s, false)
	}
}

// TestSharedLists puts a message whose lists lie in the same memory: what is got of it shares none.
func TestSharedLists(t *testing.T) { // P17.3
	kids := []api.Pred{less(1), more(2)}
	ids := []string{"a", "b", "c"}
	m := api.Msg{Kind: api.Ask, From: 1, To: 2, F: and(or(kids...), and(kids...), or(kids...)), K: api.Know{L: []api.Frag{frag(api.Vec{1}, ids[:2]...), frag(api.Vec{2}, ids[2:]...)}}}
	b, err := enc.Put(m)
	if err != nil || !bytes.Equal(b, sealed(lay(m))) {
		t.Fatal(b, err)
	}
	got, err := enc.Get(b)
	if err != nil || !alike(got, m) {
		t.Fatal(got, err)
	}
	apart(t, got)
}

// TestAnyBytes asks of bytes drawn at random, sealed and not, and of such as may be, changed here and there: P1, P17.1, P17.2.
func TestAnyBytes(t *testing.T) {
	r := rand.New(rand.NewSource(4))
	got := 0
	for range 120000 {
		b := make([]byte, r.Intn(40))
		r.Read(b)
		for i := range b {
			// Many that are small, as most numbers are.
			if r.Intn(4) > 0 {
				b[i] &= 15
			}
		}
		if len(b) > 3 && r.Intn(2) == 0 {
			copy(b, []byte{byte(2 + 2*r.Intn(4)), byte(2 + 2*r.Intn(8)), byte(2 + 2*r.Intn(8))})
		}
		if _, err := enc.Get(b); err != api.ErrSum {
			t.Fatalf("Get(%v), which aren't sealed: %v", b, err)
		}
		if checkGet(t, b) {
			got++
		}
		checkGetState(t, b)
	}
	for range 50000 {
		b := lay(anyMsg(r))
		if len(b) > 300 {
			continue
		}
		s := b
		if r.Intn(4) == 0 {
			s = lay(anyState(r))
		}
		for range 1 + r.Intn(2) {
			change(r, b)
			change(r, s)
		}
		if checkGet(t, b) {
			got++
		}
		if checkGetState(t, s) {
			got++
		}
	}
	if got < 5000 {
		t.Errorf("only %d were got", got)
	}
	for _, b := range [][]byte{make([]byte, 1<<20), bytes.Repeat([]byte{2}, 1<<20), bytes.Repeat([]byte{255}, 1<<20), bytes.Repeat([]byte{16, 2}, 1<<20), append(lay(4, 1, 2, api.Vec{}, 1<<20), make([]byte, 1<<20)...), append(lay(4, 1, 2, api.Vec{}, 1, 1<<20), make([]byte, 1<<20)...), append(lay(4, 1, 2, api.Vec{}, 1<<18), make([]byte, 9<<18+1)...)} {
		checkForm(t, b)
		if checkGetState(t, b) {
			t.Fatalf("the test's own reader got a state of %v", few(b))
		}
	}
}

// change changes one of b.
func change(r *rand.Rand, b []byte) {
	i := r.Intn(len(b))
	b[i] = one(r, b[i]^byte(r.Intn(256)), b[i]+2, b[i]-2, byte(2*r.Intn(12)), b[r.Intn(len(b))])
}

// anyNumber is any number, often a small one.
func anyNumber(r *rand.Rand) int { return one(r, one(r, numbers()...), r.Intn(12), 1, 2, 0) }

// TestAnyArguments asks of messages and states of any fields: P1, R2, R3.
func TestAnyArguments(t *testing.T) {
	r := rand.New(rand.NewSource(5))
	may := 0
	var l []api.Entry
	for range 30000 {
		m := anyMsg(r)
		for range r.Intn(3) {
			switch r.Intn(11) {
			case 0:
				m.Kind = anyNumber(r)
			case 1:
				m.From = anyNumber(r)
			case 2:
				m.To = anyNumber(r)
			case 3:
				m.Sid = anyNumber(r)
			case 4:
				m.Turn = anyNumber(r)
			case 5:
				m.N = anyNumber(r)
			case 6:
				m.F = one(r, one(r, oddFilters()...), one(r, filters()...), api.Pred{})
			case 7:
				m.K = one(r, one(r, oddKnowns()...), one(r, knowns()...))
			case 8:
				m.Have = one(r, haves(r.Intn(50)), []api.Has{has(word(r, 0), anyNumber(r), anyNumber(r), anyNumber(r))})
			case 9:
				l = slices.Concat(entries(), oddEntries(), leave(50))
				r.Shuffle(len(l), func(i, j int) { l[i], l[j] = l[j], l[i] })
				m.L = l[:one(r, 0, 1, 1, 1, 2, 4, 5, 40, 41)]
			case 10:
				m.Star = !m.Star
			}
		}
		want := mayMsg(m)
		checkMay(t, m, want)
		if want {
			may++
		}
	}
	if may < 5000 {
		t.Errorf("only %d could be", may)
	}
	for i, s := range append(oddStates(), states()...) {
		for _, n := range []int{-1, 0, 1, 3, 8, 9, 1000, math.MaxInt} {
			o := s
			*[]*int{&o.R, &o.Count, &o.Clock, &o.Epoch}[i%4] = n
			checkPutState(t, o, local.May(o))
			checkGetState(t, lay(o))
		}
	}
}

// TestHuge asks of what is far larger than may be, and of what is known of very many Ids, which may be: P1.
func TestHuge(t *testing.T) {
	for _, f := range []api.Pred{bush(60), not(bush(60)), not(star, bush(60)), deep(1 << 20), wide(1 << 20), {Op: api.Star, Kids: []api.Pred{bush(60)}}} {
		for _, m := range append(kinds(), api.Msg{}) {
			m.F = f
			if b, err := enc.Put(m); enc.May(m) || err != api.ErrArg || len(b) > 0 {
				t.Errorf("a filter far too large was put: %v, %v", few(b), err)
			}
		}
		s := base()
		s.F = f
		if b, err := enc.PutState(s); err != api.ErrArg || len(b) > 0 {
			t.Errorf("a state with a filter far too large was put: %v, %v", few(b), err)
		}
	}
	// Bytes of a filter so deep that it can't be read by one call within the other.
	ask, state := asking(bytes.Repeat([]byte{20}, 1<<23))
	checkNot(t, sealed(ask), api.ErrForm)
	if got, err := enc.GetState(state); err != api.ErrForm || !reflect.ValueOf(got).IsZero() {
		t.Errorf("of a filter far too deep was got: %v", err)
	}
	for _, m := range kinds() {
		m.L = slices.Repeat(entries(), 1<<14)
		checkPut(t, m, false)
		m = kinds()[m.Kind-1]
		m.Have = slices.Repeat(haves(40), 1<<12)
		checkPut(t, m, false)
	}
	var ids, others []string
	for i := range 26 * 26 * 26 * 2 {
		id := string([]byte{byte('a' + i/2/676), byte('a' + i/2/26%26), byte('a' + i/2%26), byte('a' + i%2)})
		if i%3 == 0 {
			others = append(others, id)
		} else {
			ids = append(ids, id)
		}
	}
	k := api.Know{Star: api.Vec{1, 0, 2}, L: []api.Frag{frag(api.Vec{2, 3}, others...), frag(api.Vec{0, 1000}, ids...)}}
	for _, m := range []api.Msg{{Kind: api.Ask, From: 1, To: 2, F: star, K: k}, {Kind: api.Done, From: 1, To: 2, Turn: 1, K: k}, {Kind: api.Ack, From: 1, To: 2, K: k}} {
		checkMay(t, m, true)
	}
	s := api.State{R: 3, K: k, F: none, Count: 2}
	checkPutState(t, s, true)
	if !checkGetState(t, lay(s)) {
		t.Error("the test's own reader got none")
	}
	k.L[1].Ids[7] = k.L[1].Ids[6]
	checkMay(t, api.Msg{Kind: api.Ack, From: 1, To: 2, K: k}, false)
}
