package clus_test

import (
	"bytes"
	"math"
	"slices"
	"testing"

	"gallipot/api"
	"gallipot/ask"
	"gallipot/clus"
	"gallipot/hand"
	"gallipot/serve"
)

// numbered asks for the numbers of the sessions, and of the answers, of what is on the way: of each its kind, Sid and Turn.
func (p *pair) numbered(want ...[3]int) {
	p.t.Helper()
	var got [][3]int
	for _, m := range p.messages() {
		got = append(got, [3]int{m.Kind, m.Sid, m.Turn})
	}
	if !slices.Equal(got, want) {
		p.t.Fatalf("on the way is %v (kind, Sid, Turn), want %v", got, want)
	}
}

// filled is a pair of a Star and a Less 5, of which the second one made so many items that the first one lacks.
func filled(t *testing.T, items int) *pair {
	t.Helper()
	p := begin(t, star, less(5))
	for i := range items {
		p.does(create(2, name(i), i%9), 0, 0)
	}
	return p
}

func TestAsk(t *testing.T) { // P21.2
	p := busy(t)
	p.empties()
	for who := 1; who <= 3; who++ {
		for with := 1; with <= 3; with++ {
			if who == with {
				continue
			}
			states := p.states()
			p.does(asks(who, with), 0, 1)
			_, want := ask.Open(states[who-1], with, p.b.number)
			if m := p.last(); !alike(m, want) || m.From != who || m.To != with || m.Sid != p.b.number {
				t.Fatalf("%d asks %d: %+v, want %+v", who, with, m, want)
			}
			for i, s := range p.states() {
				if !alike(s, states[i]) {
					t.Fatalf("an Ask changed %+v to %+v", states[i], s)
				}
			}
		}
	}
	if len(p.c.Way()) != 6 {
		t.Fatalf("%d on the way", len(p.c.Way()))
	}
}

// TestAskWritten asks for the first Ask of a cluster, written out byte by byte.
func TestAskWritten(t *testing.T) { // P21.2
	p := begin(t, star, less(5))
	p.does(asks(2, 1), 0, 1)
	want := []byte{2, 4, 2, 2, 10, 10, 0, 0, 0, 0, 0, 0, 0, 0, 0, 0}
	if b := p.c.Way()[0]; len(b) != len(want)+4 || !bytes.Equal(b[:len(want)], want) {
		t.Fatalf("%v, want %v and a sum", b, want)
	}
	p.is(api.Msg{Kind: 1, From: 2, To: 1, Sid: 1, F: less(5)})
}

// TestAskTwice asks that a second session with the same one stands in the first one's place, and one with another one doesn't.
func TestAskTwice(t *testing.T) { // P21.2, P21.3
	p := begin(t, star, less(5), less(7))
	p.does(create(2, "a", 9), 0, 0)
	p.does(create(3, "b", 9), 0, 0)
	p.does(asks(1, 2), 0, 1)
	p.does(asks(1, 3), 0, 1)
	p.does(asks(1, 2), 0, 1)
	p.does(come(0), 0, 2)
	p.does(come(0), 0, 2)
	p.does(come(0), 0, 2)
	p.numbered([3]int{2, 1, 4}, [3]int{3, 1, 4}, [3]int{2, 2, 5}, [3]int{3, 2, 5}, [3]int{2, 3, 6}, [3]int{3, 3, 6})
	s := p.state(1)
	p.does(come(0), api.ErrOld, 0)
	p.does(come(0), api.ErrOld, 0)
	if !alike(p.state(1), s) {
		t.Fatalf("an answer to a session that is no more changed %+v to %+v", s, p.state(1))
	}
	p.does(come(0), 0, 0)
	p.does(come(0), 0, 1)
	p.does(come(0), 0, 0)
	p.does(come(0), 0, 1)
	if s = p.state(1); len(s.Store) != 2 {
		t.Fatalf("%+v", s)
	}
	// A second one stands in the place of one that is over, and of one of which some came.
	p.empties()
	p.does(update(2, "a", 8), 0, 0)
	p.does(asks(1, 2), 0, 1)
	p.does(come(0), 0, 2)
	p.does(come(0), 0, 0)
	p.does(asks(1, 2), 0, 1)
	p.does(come(0), api.ErrOld, 0)
	p.does(come(0), 0, 1)
	p.does(come(0), 0, 1)
	p.is(hand.Ack(p.state(1), 2))
}

// TestAskBothWays asks that each of two has a session of its own with the other one.
func TestAskBothWays(t *testing.T) { // P21.2, P21.3
	p := begin(t, star, star)
	p.does(create(1, "a", 1), 0, 0)
	p.does(create(2, "b", 1), 0, 0)
	p.does(asks(1, 2), 0, 1)
	p.does(asks(2, 1), 0, 1)
	p.does(come(0), 0, 2)
	p.does(come(0), 0, 2)
	p.numbered([3]int{2, 1, 3}, [3]int{3, 1, 3}, [3]int{2, 2, 4}, [3]int{3, 2, 4})
	p.does(come(3), 0, 0)
	p.does(come(1), 0, 0)
	p.does(come(1), 0, 1)
	p.does(come(0), 0, 1)
	p.is(hand.Ack(p.state(2), 1), api.Msg{Kind: 4, From: 1, To: 2, K: api.Know{Star: api.Vec{1, 1}}, Star: true})
	p.does(come(0), 0, 0)
	p.does(come(0), 0, 0)
	if a, b := p.state(1), p.state(2); len(a.Store) != 2 || !slices.Equal(a.Store, b.Store) {
		t.Fatalf("%+v, %+v", a, b)
	}
}

// TestNumbers asks that each session, and each answer, has the next number, and that none is used up by what is neither.
func TestNumbers(t *testing.T) { // P21.2, P21.3
	p := begin(t, star, less(5), less(3))
	next := 0
	uses := func(n int) { // Each of the steps ahead of it has used up so many in all.
		t.Helper()
		next += n + 1
		p.does(asks(1, 3), 0, 1)
		if m := p.last(); m.Sid != next {
			t.Fatalf("Sid %d, want %d", m.Sid, next)
		}
		p.does(lose(-1), 0, 0)
	}
	uses(0)
	p.does(create(2, "a", 9), 0, 0)
	p.does(create(2, "a", 9), api.ErrInUse, 0)
	p.does(update(2, "a", 4), 0, 0)
	p.does(erase(2, "a"), 0, 0)
	p.does(filter(2, less(6)), 0, 0)
	p.does(restart(2), 0, 0)
	p.does(fuse(2, 1000), 0, 0)
	p.does(asks(1, 1), api.ErrArg, 0)
	p.does(asks(4, 1), api.ErrArg, 0)
	p.does(syncs(1, 4), api.ErrArg, 0)
	p.does(come(0), api.ErrNone, 0)
	uses(0)
	p.does(asks(1, 2), 0, 1)
	p.does(twice(0), 0, 0)
	p.does(twice(0), 0, 0)
	p.does(turn(0, 7), 0, 0)
	uses(1)
	p.does(come(0), api.ErrSum, 0)
	uses(0)
	p.does(come(0), 0, 2)
	p.does(come(0), 0, 2)
	uses(2)
	p.numbered([3]int{2, 3, 6}, [3]int{3, 3, 6}, [3]int{2, 3, 7}, [3]int{3, 3, 7})
	p.does(come(0), 0, 0)
	p.does(come(0), 0, 1)
	p.does(come(0), api.ErrArg, 0)
	p.does(come(0), api.ErrArg, 0)
	p.does(come(0), 0, 0)
	uses(0)
	p.does(syncs(1, 2), 0, 0)
	uses(2)
	p.does(fuse(2, 0), 0, 0)
	p.does(erase(2, "a"), api.ErrNone, 0)
	p.does(create(2, "b", 9), api.ErrDown, 0)
	p.does(asks(2, 1), api.ErrDown, 0)
	p.does(syncs(2, 1), api.ErrDown, 0)
	p.does(syncs(1, 2), api.ErrDown, 0)
	uses(0)
	// An Ask that finds its replica down isn't answered, so that it uses up no other number; nor one that is lost.
	p.does(asks(1, 2), 0, 1)
	p.does(come(0), api.ErrDown, 0)
	p.does(asks(1, 2), 0, 1)
	p.does(lose(0), 0, 0)
	uses(2)
	// One that finds no room is a session all the same; so is an answer of which nothing finds room.
	p.fills(100)
	p.does(asks(3, 1), 0, 0)
	p.does(asks(1, 3), 0, 0)
	p.empties()
	uses(3)
}

// TestComeOfEach lets a message of each kind come, and asks for what comes of it.
func TestComeOfEach(t *testing.T) { // P21.2, P21.3
	for n := range 14 {
		p := filled(t, n)
		asked, answering := p.state(1), p.state(2)
		_, m := ask.Open(asked, 2, 1)
		p.does(asks(1, 2), 0, 1)
		p.is(m)
		want := serve.Answer(answering, m, 2)
		p.does(come(0), 0, len(want))
		p.is(want...)
		if !alike(p.state(1), asked) || !alike(p.state(2), answering) {
			t.Fatalf("an Ask that came changed %+v, or %+v", p.state(1), p.state(2))
		}
		if len(want) != (n+3)/4+1 {
			t.Fatalf("of %d items came %d messages", n, len(want))
		}
		for i, m := range want {
			last := i == len(want)-1
			out := 0
			if last {
				out = 1
			}
			p.does(come(0), 0, out)
			if s := p.state(1); len(s.Store) != min(n, 4*(i+1)) || s.K.Star[1] != 0 {
				t.Fatalf("behind %+v replica 1 is %+v", m, s)
			}
			if !last && len(p.c.Way()) != len(want)-1-i {
				t.Fatalf("%d are on the way", len(p.c.Way()))
			}
		}
		// Less 5 has the items of which the number is below 5; a Star isn't seen in it, so that what it knows isn't told.
		p.is(hand.Ack(p.state(1), 2))
		p.does(come(0), 0, 0)
		if s := p.state(2); len(s.Out) != 0 || !alike(s.Store, answering.Store) || !alike(s.K, answering.K) {
			t.Fatalf("behind the Ack replica 2 is %+v", s)
		}
	}
}

// TestComeKnows asks that one whose filter is seen in the other one's knows what that knows, once it is over.
func TestComeKnows(t *testing.T) { // P21.3
	p := begin(t, less(5), star)
	for i := range 9 {
		p.does(create(2, name(i), i), 0, 0)
	}
	p.does(asks(1, 2), 0, 1)
	p.does(come(0), 0, 3)
	// In any order; the Done comes first.
	p.does(come(2), 0, 0)
	p.does(come(1), 0, 0)
	if s := p.state(1); s.K.Star[1] != 0 || len(s.Store) != 1 {
		t.Fatalf("%+v", s)
	}
	p.does(come(0), 0, 1)
	if s := p.state(1); s.K.Star[1] != 9 || len(s.K.L) != 0 || len(s.Store) != 5 {
		t.Fatalf("%+v", s)
	}
	p.is(api.Msg{Kind: 4, From: 1, To: 2, K: api.Know{Star: api.Vec{0, 9}}})
	s := p.state(2)
	if p.does(come(0), 0, 0); !alike(p.state(2), s) {
		t.Fatalf("an Ack of one that hasn't all changed %+v to %+v", s, p.state(2))
	}
}

// TestComeSaves asks that each state that comes of a message is saved, and no session is.
func TestComeSaves(t *testing.T) { // P21.3, P21.5
	for stop := range 5 {
		p := filled(t, 9)
		p.does(asks(1, 2), 0, 1)
		p.does(come(0), 0, 4)
		for range min(stop, 3) {
			p.does(come(0), 0, 0)
		}
		if stop == 4 {
			p.does(come(0), 0, 1)
			p.does(come(0), 0, 0)
		}
		for who := 1; who <= 2; who++ {
			s := p.state(who)
			if p.does(restart(who), 0, 0); !alike(p.state(who), s) {
				t.Fatalf("behind %d messages %+v came up as %+v", stop, s, p.state(who))
			}
		}
		for range 4 - stop {
			p.does(come(0), api.ErrOld, 0)
		}
		p.is()
	}
}

// TestComeWithoutSession asks for ErrOld: without a session with whom it is from, of another one's Sid, and of one that is over.
func TestComeWithoutSession(t *testing.T) { // P21.3
	for _, c := range []struct {
		why  string
		does []clus.Step
		code api.Code
	}{
		{"it began anew", []clus.Step{restart(1)}, api.ErrOld},
		{"it began anew, and asked another one", []clus.Step{restart(1), asks(1, 3), lose(-1)}, api.ErrOld},
		{"it began anew, and was asked", []clus.Step{restart(1), asks(2, 1), lose(-1)}, api.ErrOld},
		{"it has another one", []clus.Step{asks(1, 2), lose(-1)}, api.ErrOld},
		{"it has another one, that is over", []clus.Step{syncs(1, 2)}, api.ErrOld},
		{"it began anew, and has another one", []clus.Step{restart(1), asks(1, 2), lose(-1)}, api.ErrOld},
		{"its filter is another one", []clus.Step{filter(1, star)}, api.ErrOld},
		{"it began anew behind a write that was cut off", []clus.Step{fuse(1, 5), create(1, "x", 1), restart(1)}, api.ErrOld},
		{"it is down", []clus.Step{fuse(1, 5), create(1, "x", 1)}, api.ErrDown},
		{"all stays", []clus.Step{restart(2), restart(3), asks(1, 3), lose(-1), asks(2, 1), lose(-1), syncs(2, 1), syncs(1, 3), filter(2, less(4)), create(1, "x", 1), update(2, "aa", 1)}, 0},
	} {
		for at := range 3 {
			p := begin(t, star, less(5), less(7))
			for i := range 7 {
				p.does(create(2, name(i), i), 0, 0)
			}
			p.does(asks(1, 2), 0, 1)
			p.does(come(0), 0, 3)
			for range at {
				p.does(come(0), 0, 0)
			}
			for _, x := range c.does {
				p.do(x)
			}
			for i := at; i < 3; i++ {
				out := 0
				if i == 2 && c.code == 0 {
					out = 1
				}
				p.does(come(0), c.code, out)
			}
			if len(p.c.Way()) > 0 != (c.code == 0) {
				t.Fatalf("%s: %d are on the way", c.why, len(p.c.Way()))
			}
		}
	}
}

// TestComeOnceOver asks for what comes of a session that is over: each message of its answer once more, of another answer, and its Ack.
func TestComeOnceOver(t *testing.T) { // P21.3
	p := filled(t, 6)
	p.does(asks(1, 2), 0, 1)
	p.does(twice(0), 0, 0)
	p.does(come(0), 0, 3)
	for i := range 3 {
		p.does(twice(1+i), 0, 0)
	}
	p.numbered([3]int{1, 1, 0}, [3]int{2, 1, 2}, [3]int{2, 1, 2}, [3]int{3, 1, 2}, [3]int{2, 1, 2}, [3]int{2, 1, 2}, [3]int{3, 1, 2})
	p.does(come(1), 0, 0)
	p.does(come(1), 0, 0)
	p.does(come(1), 0, 1)
	s := p.state(1)
	for range 3 {
		p.does(come(1), api.ErrOld, 0)
	}
	p.numbered([3]int{1, 1, 0}, [3]int{4, 0, 0})
	p.does(come(0), 0, 3)
	// Of another Turn they aren't of the session, which layer 13 asks first.
	for range 3 {
		p.does(come(1), api.ErrArg, 0)
	}
	if !alike(p.state(1), s) {
		t.Fatalf("%+v, want %+v", p.state(1), s)
	}
	// The Ack comes, and comes twice, whatever the session is.
	p.does(twice(0), 0, 0)
	p.does(twice(0), 0, 0)
	p.does(come(0), 0, 0)
	if s := p.state(2); len(s.Out) != 0 {
		t.Fatalf("%+v", s)
	}
	p.does(create(2, "x", 9), 0, 0)
	p.does(come(0), 0, 0)
	p.does(restart(1), 0, 0)
	p.does(come(0), 0, 0)
	if s := p.state(2); len(s.Out) != 1 || s.Out[0].Id != "x" {
		t.Fatalf("%+v", s)
	}
	p.is()
}

// TestComeOfTwoAnswers asks that a session takes one answer of two alone, that which comes first.
func TestComeOfTwoAnswers(t *testing.T) { // P21.3
	for first := range 2 {
		p := filled(t, 3)
		p.does(asks(1, 2), 0, 1)
		p.does(twice(0), 0, 0)
		p.does(come(0), 0, 2)
		p.does(come(0), 0, 2)
		p.does(come(2*first), 0, 0)
		// The other answer's batch, and its Done.
		p.does(come(1-first), api.ErrArg, 0)
		p.does(come(1-first), api.ErrArg, 0)
		p.does(come(0), 0, 1)
		p.is(hand.Ack(p.state(1), 2))
	}
}

// TestComeDown asks for a message of each kind that finds its replica down: it is off the way, and nothing changes; and so it is of one that was turned.
func TestComeDown(t *testing.T) { // P21.2
	p := begin(t, star, star, star)
	p.does(create(2, "a", 9), 0, 0)
	p.does(asks(1, 2), 0, 1)
	p.does(twice(0), 0, 0)
	p.does(come(0), 0, 2)
	for range 2 {
		p.does(twice(1), 0, 0)
		p.does(twice(2), 0, 0)
	}
	p.does(come(1), 0, 0)
	p.does(come(1), 0, 1)
	// On the way are the Ask, batches and Dones for replica 1, and its Ack, for replica 2, the last one.
	p.does(twice(0), 0, 0)
	p.does(turn(-1, 3), 0, 0)
	p.does(twice(1), 0, 0)
	p.does(turn(-1, 3), 0, 0)
	p.does(twice(5), 0, 0)
	p.does(turn(-1, 3), 0, 0)
	for who := 1; who <= 2; who++ {
		p.does(fuse(who, 9), 0, 0)
		p.does(create(who, "z", 1), api.ErrDown, 0)
	}
	third := p.state(3)
	for n := len(p.c.Way()); n > 0; n-- {
		p.does(come(n/2), api.ErrDown, 0)
		if len(p.c.Way()) != n-1 || !alike(p.state(3), third) {
			t.Fatalf("%d are on the way, of %d", len(p.c.Way()), n)
		}
	}
	p.does(come(0), api.ErrNone, 0)
}

// TestPlace asks for the place of each At, of one to seven on the way, for each kind of step that is of At.
func TestPlace(t *testing.T) { // P21.2
	for n := 1; n <= 7; n++ {
		ats := append(far(), 1, 2, 3, 4, 5, 6, 7, 8, 20, 21, -3, -4, -5, -6, -7, math.MaxInt-5, math.MinInt+5)
		for _, at := range ats {
			for kind := 6; kind <= 9; kind++ {
				p := begin(t, slices.Repeat([]api.Pred{star}, 8)...)
				for who := 2; who <= n+1; who++ {
					p.does(asks(who, 1), 0, 1)
				}
				way, i := p.c.Way(), floor(at, n)
				r := p.do(clus.Step{Kind: kind, At: at})
				var want [][]byte
				switch now := p.c.Way(); kind {
				case 6:
					// The Done that answers it.
					want = append(slices.Delete(slices.Clone(way), i, i+1), now[len(now)-1])
					if m := p.messages()[n-1]; m.To != i+2 || m.Sid != i+1 || r.Out != 1 {
						t.Fatalf("At %d of %d: %+v came", at, n, m)
					}
				case 7:
					want = append(slices.Clone(way), way[i])
				case 8:
					want = slices.Delete(slices.Clone(way), i, i+1)
				case 9:
					want = slices.Clone(way)
					want[i] = bytes.Clone(way[i])
					want[i][0] ^= 1
				}
				if now := p.c.Way(); r.Code != 0 || !slices.EqualFunc(now, want, bytes.Equal) {
					t.Fatalf("kind %d, At %d of %d: %+v, and on the way is %v, want %v", kind, at, n, r, now, want)
				}
			}
		}
	}
}

// TestTwice asks that a message stands on the way once more, behind all, and that both come.
func TestTwice(t *testing.T) { // P21.2
	p := filled(t, 3)
	p.does(asks(1, 2), 0, 1)
	p.does(asks(2, 1), 0, 1)
	p.does(twice(0), 0, 0)
	p.does(twice(1), 0, 0)
	p.does(twice(2), 0, 0)
	p.numbered([3]int{1, 1, 0}, [3]int{1, 2, 0}, [3]int{1, 1, 0}, [3]int{1, 2, 0}, [3]int{1, 1, 0})
	way := p.c.Way()
	for _, two := range [][2]int{{0, 2}, {1, 3}, {2, 4}} {
		if !bytes.Equal(way[two[0]], way[two[1]]) {
			t.Fatalf("%v and %v", way[two[0]], way[two[1]])
		}
	}
	p.does(come(4), 0, 2)
	p.does(come(0), 0, 2)
	p.does(come(1), 0, 2)
	p.numbered([3]int{1, 2, 0}, [3]int{1, 2, 0}, [3]int{2, 1, 3}, [3]int{3, 1, 3}, [3]int{2, 1, 4}, [3]int{3, 1, 4}, [3]int{2, 1, 5}, [3]int{3, 1, 5})
}

func TestTwiceFull(t *testing.T) { // P21.2, P21.5
	p := begin(t, star, less(5))
	p.fills(98)
	p.does(twice(0), 0, 0)
	p.does(twice(98), 0, 0)
	for _, at := range append(far(), 5, 99) {
		p.does(twice(at), api.ErrFull, 0)
	}
	p.does(turn(7, 7), 0, 0)
	p.does(twice(7), api.ErrFull, 0)
	p.does(lose(50), 0, 0)
	p.does(twice(7), 0, 0)
	p.does(twice(7), api.ErrFull, 0)
}

// TestTwiceOfTurned asks that one that was turned is on the way once more as it is, and can't be turned; nor the one of that one.
func TestTwiceOfTurned(t *testing.T) { // P21.2
	p := filled(t, 3)
	p.does(asks(1, 2), 0, 1)
	p.does(turn(0, 300), 0, 0)
	p.does(twice(0), 0, 0)
	p.does(twice(1), 0, 0)
	way := p.c.Way()
	if !bytes.Equal(way[0], way[1]) || !bytes.Equal(way[0], way[2]) {
		t.Fatalf("on the way is %v", way)
	}
	for at := range 3 {
		for _, n := range []int{300, 0, 1, 7, -1} {
			p.does(turn(at, n), api.ErrInUse, 0)
		}
	}
	for range 3 {
		p.does(come(0), api.ErrSum, 0)
	}
}

// TestTurnOfBoth asks that of one that is there twice each can be turned once, by itself.
func TestTurnOfBoth(t *testing.T) { // P21.2
	for first := range 2 {
		p := filled(t, 3)
		p.does(asks(1, 2), 0, 1)
		p.does(twice(0), 0, 0)
		was := p.c.Way()
		p.does(turn(first, 5), 0, 0)
		now := p.c.Way()
		if bytes.Equal(now[first], was[0]) || !bytes.Equal(now[1-first], was[0]) {
			t.Fatalf("on the way was %v, and is %v", was, now)
		}
		p.does(turn(first, 6), api.ErrInUse, 0)
		// The other one still comes as it was; or it is turned.
		p.does(twice(1-first), 0, 0)
		p.does(come(2), 0, 2)
		p.does(turn(1-first, 6), 0, 0)
		p.does(turn(1-first, 6), api.ErrInUse, 0)
		p.does(turn(first, 5), api.ErrInUse, 0)
		p.does(come(0), api.ErrSum, 0)
		p.does(come(0), api.ErrSum, 0)
		p.numbered([3]int{2, 1, 2}, [3]int{3, 1, 2})
	}
}

// TestTurn turns each byte of a message of each kind, and by each value, and lets it come.
func TestTurn(t *testing.T) { // P21.2, P21.5
	p := filled(t, 2)
	p.does(asks(1, 2), 0, 1)
	p.does(twice(0), 0, 0)
	p.does(come(0), 0, 2)
	p.does(twice(1), 0, 0)
	p.does(twice(2), 0, 0)
	p.does(come(1), 0, 0)
	p.does(come(1), 0, 1)
	p.numbered([3]int{1, 1, 0}, [3]int{2, 1, 2}, [3]int{3, 1, 2}, [3]int{4, 0, 0})
	way := p.c.Way()
	for at, b := range way {
		for n := -len(b); n < 256*len(b); n++ {
			if n > len(b) && n%7 > 0 && n%255 > 1 {
				continue
			}
			p.does(twice(at), 0, 0)
			p.does(turn(-1, n), 0, 0)
			want := bytes.Clone(b)
			want[floor(n, len(b))] ^= byte(floor(n, 255) + 1)
			now := p.c.Way()
			if len(now) != 5 || !bytes.Equal(now[4], want) || bytes.Equal(want, b) {
				t.Fatalf("turned by %d, %v is %v, want %v", n, b, now, want)
			}
			p.does(come(4), api.ErrSum, 0)
		}
	}
	// The others stay, and come.
	if !slices.EqualFunc(p.c.Way(), way, bytes.Equal) {
		t.Fatalf("on the way was %v, and is %v", way, p.c.Way())
	}
	p.does(come(3), 0, 0)
	p.does(come(0), 0, 2)
}

// TestTurnFar asks for the byte, and for what it is turned by, of each N far out.
func TestTurnFar(t *testing.T) { // P21.2
	for _, n := range append(far(), 253, 254, 255, 256, 509, 510, 511, -253, -254, -255, -256, -257, 1<<62, -1<<62, 1<<40+1) {
		p := begin(t, star, less(5))
		p.does(asks(1, 2), 0, 1)
		b := p.c.Way()[0]
		p.does(turn(n, n), 0, 0)
		b[floor(n, len(b))] ^= byte(floor(n, 255) + 1)
		if now := p.c.Way()[0]; !bytes.Equal(now, b) {
			t.Fatalf("turned by %d: %v, want %v", n, now, b)
		}
		p.does(turn(0, n), api.ErrInUse, 0)
		p.does(come(0), api.ErrSum, 0)
	}
	// Written out: the first byte, by 1; the last one of 20, by 20; the first one, by 21; the last one, by 255; the next, by 1.
	for _, c := range []struct{ n, at, by int }{{0, 0, 1}, {19, 19, 20}, {20, 0, 21}, {-1, 19, 255}, {254, 14, 255}, {255, 15, 1}, {-255, 5, 1}, {-256, 4, 255}} {
		p := begin(t, star, less(5))
		p.does(asks(2, 1), 0, 1)
		b := p.c.Way()[0]
		p.does(turn(0, c.n), 0, 0)
		if b[c.at] ^= byte(c.by); len(b) != 20 || !bytes.Equal(p.c.Way()[0], b) {
			t.Fatalf("turned by %d: %v, want %v", c.n, p.c.Way()[0], b)
		}
	}
}

// TestLose loses what is on the way, in each order, and asks that what is left comes.
func TestLose(t *testing.T) { // P21.2
	p := filled(t, 9)
	p.does(asks(1, 2), 0, 1)
	p.does(come(0), 0, 4)
	p.does(lose(1), 0, 0)
	p.numbered([3]int{2, 1, 2}, [3]int{2, 1, 2}, [3]int{3, 1, 2})
	p.does(come(0), 0, 0)
	p.does(come(0), 0, 0)
	// A batch is missing, so that it isn't over.
	p.does(come(0), 0, 0)
	p.is()
	if s := p.state(1); len(s.Store) != 5 {
		t.Fatalf("%+v", s)
	}
	p.does(lose(0), api.ErrNone, 0)
	p.fills(5)
	p.does(turn(2, 1), 0, 0)
	p.does(lose(2), 0, 0)
	for range 4 {
		p.does(turn(3, 1), 0, 0)
		p.does(lose(-1), 0, 0)
		p.fills(4)
	}
}

// TestRoom asks how many messages find room, with so many on the way: of an Ask, of an answer, and of an Ack.
func TestRoom(t *testing.T) { // P21.2, P21.3, P21.5
	for n := 90; n <= 100; n++ {
		p := filled(t, 17)
		p.fills(n)
		p.does(asks(1, 2), 0, min(1, 100-n))
		p.does(asks(2, 1), 0, min(1, max(0, 99-n)))
		p.empties()
		// The answer has five batches, and a Done.
		p.does(asks(1, 2), 0, 1)
		p.fills(n)
		p.does(come(n/2), 0, min(6, 101-n))
		for i, m := range p.messages()[n-1:] {
			if i == 5 && m.Kind != 3 || i < 5 && (m.Kind != 2 || m.N != i) {
				t.Fatalf("of %d the message at %d behind them is %+v", n, i, m)
			}
		}
	}
	// What finds no room is lost: the Done never comes, and an answer to the session is too old once there is another one, though that one's Ask was lost.
	p := filled(t, 3)
	p.does(asks(1, 2), 0, 1)
	p.fills(100)
	p.does(come(0), 0, 1)
	p.does(come(-1), 0, 0)
	p.does(come(0), 0, 2)
	p.does(asks(1, 2), 0, 0)
	p.does(come(-1), api.ErrOld, 0)
	p.does(come(-1), api.ErrOld, 0)
	// An Ack finds room, as what it is of was taken off the way.
	p.empties()
	p.does(asks(2, 1), 0, 1)
	p.does(come(0), 0, 1)
	for len(p.c.Way()) < 100 {
		p.does(twice(0), 0, 0)
	}
	p.does(come(0), 0, 1)
	if len(p.c.Way()) != 100 {
		t.Fatalf("%d are on the way", len(p.c.Way()))
	}
	p.does(come(0), api.ErrOld, 0)
}
