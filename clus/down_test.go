package clus_test

import (
	"bytes"
	"math"
	"slices"
	"testing"

	"gallipot/api"
	"gallipot/ask"
	"gallipot/clus"
	"gallipot/hand"
	"gallipot/take"
)

// cuts are fuses for a write of n bytes: each that cuts it off, one of just its length, and some that outlast it.
func cuts(n int) []int {
	var l []int
	for i := range n + 3 {
		l = append(l, i)
	}
	return append(l, 2*n, 2*n+1, math.MaxInt)
}

// came asks for what came of a write of who's state, that was to be want, and of n bytes, with such a fuse: it is down, and comes up as it was, or as want; or it is up, and is want.
func (p *pair) came(who int, was, want api.State, n, fuse int) {
	p.t.Helper()
	if fuse > n {
		if s := p.state(who); !alike(s, want) {
			p.t.Fatalf("with a fuse of %d, for %d bytes, it is %+v, want %+v", fuse, n, s, want)
		}
		return
	}
	p.isDown(who)
	if fuse == n {
		was = want
	}
	p.does(restart(who), 0, 0)
	if s := p.state(who); !alike(s, was) {
		p.t.Fatalf("with a fuse of %d, for %d bytes, it came up as %+v, want %+v", fuse, n, s, was)
	}
}

// TestFuseOfDeeds cuts off the write of each deed at each byte.
func TestFuseOfDeeds(t *testing.T) { // P21.2, P21.5
	for _, x := range []clus.Step{create(2, "x", 1), create(2, "y", 9), update(2, "aa", 7), update(2, "ab", 2), erase(2, "ac"), filter(2, less(2)), filter(2, deep())} {
		p := filled(t, 7)
		was := p.state(2)
		want, err := deed(was, x)
		if err != nil {
			t.Fatal(err)
		}
		n := len(record(t, want))
		for _, cut := range cuts(n) {
			p := filled(t, 7)
			p.does(asks(1, 2), 0, 1)
			other, way := p.state(1), p.c.Way()
			p.does(fuse(2, cut), 0, 0)
			code := api.Code(0)
			if cut <= n {
				code = api.ErrDown
			}
			p.does(x, code, 0)
			if !alike(p.state(1), other) || !slices.EqualFunc(p.c.Way(), way, bytes.Equal) {
				t.Fatalf("%+v changed another one to %+v, or what is on the way to %v", x, p.state(1), p.c.Way())
			}
			if cut <= n {
				for _, y := range []clus.Step{x, create(2, "z", 1), create(2, "", 1), update(2, "none", 1), erase(2, "No"), filter(2, api.Pred{}), asks(2, 1), fuse(2, 1), fuse(2, -1)} {
					p.does(y, api.ErrDown, 0)
				}
			}
			p.came(2, was, want, n, cut)
			if cut <= n {
				// It has no fuse then, and goes on from there.
				p.does(create(2, "z", 3), 0, 0)
				p.does(update(2, "z", 4), 0, 0)
				continue
			}
			// What is left of the fuse is for the next write.
			then, err := deed(p.state(2), create(2, "z", 1))
			if err != nil {
				t.Fatal(err)
			}
			code = 0
			if cut-n <= len(record(t, then)) {
				code = api.ErrDown
			}
			p.does(create(2, "z", 1), code, 0)
			p.came(2, want, then, len(record(t, then)), cut-n)
		}
	}
}

// TestFuseOfRefused asks that a deed that is refused writes nothing: a fuse of 0 stays.
func TestFuseOfRefused(t *testing.T) { // P21.2, R3
	p := filled(t, 3)
	p.does(fuse(2, 0), 0, 0)
	for _, c := range []struct {
		x    clus.Step
		code api.Code
	}{
		{create(2, "", 1), api.ErrArg}, {create(2, "aa", 1), api.ErrInUse}, {update(2, "x", 1), api.ErrNone}, {update(2, "aa", 1000001), api.ErrArg}, {erase(2, "x"), api.ErrNone}, {erase(2, "X"), api.ErrArg}, {filter(2, not()), api.ErrArg},
		{clus.Step{Kind: 13, Who: 2}, api.ErrArg}, {asks(2, 2), api.ErrArg}, {syncs(2, 3), api.ErrArg}, {fuse(2, -1), api.ErrArg}, {fuse(2, math.MinInt), api.ErrArg}, {come(0), api.ErrNone},
	} {
		s := p.state(2)
		if p.does(c.x, c.code, 0); !alike(p.state(2), s) {
			t.Fatalf("%+v changed %+v to %+v", c.x, s, p.state(2))
		}
	}
	// An Ask, and an answer, write nothing, either; nor does what is refused as it comes.
	p.does(asks(2, 1), 0, 1)
	p.does(asks(1, 2), 0, 1)
	p.does(come(1), 0, 2)
	p.does(come(0), 0, 1)
	p.does(asks(2, 1), 0, 1)
	p.does(come(2), api.ErrOld, 0)
	p.does(turn(2, 0), 0, 0)
	p.does(come(2), api.ErrSum, 0)
	p.does(update(2, "aa", 1), api.ErrDown, 0)
	p.isDown(2)
}

func TestFuse(t *testing.T) { // P21.2
	p := filled(t, 3)
	n := len(record(t, p.state(2)))
	// A fuse stands in the place of the one ahead of it.
	for _, first := range []int{0, 1, n, math.MaxInt} {
		for _, second := range []int{0, 1, 7, math.MaxInt} {
			p.does(fuse(2, first), 0, 0)
			p.does(fuse(2, second), 0, 0)
			for _, n := range []int{-1, -2, -255, math.MinInt} {
				p.does(fuse(2, n), api.ErrArg, 0)
			}
			s := p.state(2)
			if second == math.MaxInt {
				p.does(update(2, "aa", first%1000), 0, 0)
				continue
			}
			p.does(update(2, "aa", 3), api.ErrDown, 0)
			for _, n := range []int{-1, 0, 1, math.MaxInt, math.MinInt} {
				p.does(fuse(2, n), api.ErrDown, 0)
			}
			p.came(2, s, s, math.MaxInt, second)
		}
	}
	// It is of its own disk alone.
	p.does(fuse(2, 0), 0, 0)
	p.does(create(1, "x", 1), 0, 0)
	p.does(create(2, "x", 1), api.ErrDown, 0)
	p.does(fuse(1, 5), 0, 0)
	p.does(restart(2), 0, 0)
	p.does(create(2, "x", 1), 0, 0)
	p.does(create(1, "y", 1), api.ErrDown, 0)
}

// TestFuseOfCome cuts off the write of what comes, at each byte: of a batch, of the batch, and the Done, with which the session is over, and of an Ack.
func TestFuseOfCome(t *testing.T) { // P21.2, P21.3, P21.5
	for _, c := range []struct {
		why       string
		comes     []int // what comes ahead of it
		at        int
		who, acks int
	}{
		{"a batch", []int{0}, 0, 1, 0},
		{"the second batch", []int{0, 0}, 0, 1, 0},
		{"a Done, first", []int{0}, 2, 1, 0},
		{"a Done, last", []int{0, 0, 0}, 0, 1, 1},
		{"a batch, last", []int{0, 2, 0}, 0, 1, 1},
		{"an Ack", []int{0, 0, 0, 0}, 0, 2, 0},
	} {
		ready := func() *pair {
			p := filled(t, 6)
			p.does(asks(1, 2), 0, 1)
			for _, at := range c.comes {
				if p.do(come(at)).Code != 0 {
					t.Fatalf("%s: what comes ahead of it is refused", c.why)
				}
			}
			return p
		}
		p := ready()
		was := p.state(c.who)
		p.does(come(c.at), 0, c.acks)
		want := p.state(c.who)
		n := len(record(t, want))
		for _, cut := range cuts(n) {
			p := ready()
			p.does(fuse(c.who, cut), 0, 0)
			left := len(p.c.Way()) - 1
			if cut > n {
				p.does(come(c.at), 0, c.acks)
				left += c.acks
			} else {
				p.does(come(c.at), api.ErrDown, 0)
			}
			if len(p.c.Way()) != left {
				t.Fatalf("%s: %d are on the way, want %d", c.why, len(p.c.Way()), left)
			}
			p.came(c.who, was, want, n, cut)
		}
	}
}

// TestRestart asks of one that is up, and of one that is down, that it has no fuse, and no sessions, then.
func TestRestart(t *testing.T) { // P21.2, P21.5
	for down := range 2 {
		for who := 1; who <= 3; who++ {
			p := busy(t)
			p.empties()
			with, third := 1+who%3, 1+(who+1)%3
			p.does(asks(who, with), 0, 1)
			p.does(asks(who, third), 0, 1)
			p.does(asks(with, who), 0, 1)
			p.do(come(0))
			p.do(come(0))
			p.do(come(0))
			states := p.states()
			p.does(fuse(who, 4*down), 0, 0)
			if down == 1 {
				p.does(create(who, "x", 1), api.ErrDown, 0)
			}
			way := p.c.Way()
			p.does(restart(who), 0, 0)
			for i, s := range p.states() {
				if !alike(s, states[i]) {
					t.Fatalf("replica %d began anew: %+v was %+v", who, s, states[i])
				}
			}
			if !slices.EqualFunc(p.c.Way(), way, bytes.Equal) {
				t.Fatalf("what is on the way is %v, and was %v", p.c.Way(), way)
			}
			// It has no sessions; the other ones' with it go on.
			l := p.messages()
			old := 0
			for _, m := range l {
				switch r := p.do(come(0)); {
				case m.To == who && r.Code != 9:
					t.Fatalf("%+v: %+v", m, r)
				case m.To == with && r.Code != 0:
					t.Fatalf("%+v: %+v", m, r)
				case m.To == who:
					old++
				}
			}
			if old < 2 || old == len(l) {
				t.Fatalf("%d of %d were too old", old, len(l))
			}
			// It has no fuse.
			p.does(create(who, "x", 1), 0, 0)
			p.does(restart(who), 0, 0)
			if s := p.state(who); s.Count != states[who-1].Count+1 {
				t.Fatalf("%+v", s)
			}
		}
	}
}

// TestRestartOften asks that what comes up is what was saved, behind many writes that were cut off, and twice.
func TestRestartOften(t *testing.T) { // P21.2, P21.5
	p := begin(t, star, less(5))
	for i := range 150 {
		s := p.state(1)
		x := update(1, "jar", i)
		if i == 0 {
			x = create(1, "jar", 0)
		}
		then, err := deed(s, x)
		if err != nil {
			t.Fatal(err)
		}
		n := len(record(t, then))
		cut := (i * 37) % (n + 1)
		if i%3 == 0 {
			p.does(x, 0, 0)
			s = then
		} else {
			p.does(fuse(1, cut), 0, 0)
			p.does(x, api.ErrDown, 0)
			if cut == n {
				s = then
			}
		}
		p.does(restart(1), 0, 0)
		p.does(restart(1), 0, 0)
		if !alike(p.state(1), s) {
			t.Fatalf("%+v came up, want %+v", p.state(1), s)
		}
	}
}

// stepByStep does a Sync by its steps, at a pair with nothing on the way, and tells how many messages came.
func (p *pair) stepByStep(who, with int) int {
	p.t.Helper()
	p.does(asks(who, with), 0, 1)
	n := 0
	for ; len(p.c.Way()) > 0; n++ {
		p.do(come(0))
	}
	return n
}

// TestSync holds a Sync against the same steps one by one, with nothing, and with much, on the way.
func TestSync(t *testing.T) { // P21.2, P21.5
	for _, n := range []int{0, 1, 2, 99, 100} {
		p, q := busy(t), busy(t)
		p.empties()
		q.empties()
		if n > 0 {
			p.fills(n)
			// One that was turned is among them.
			p.does(turn(n/2, n), 0, 0)
			q.does(asks(1, 2), 0, 1)
			q.empties()
		}
		way := p.c.Way()
		for i := range 40 {
			who := 1 + i%3
			with := 1 + (who+i/3%2)%3
			if i%4 == 0 {
				x := update(who, name(i), i%10)
				if i%3 > 0 {
					x.Kind = 1
				}
				p.do(x)
				q.do(x)
			}
			p.does(syncs(who, with), 0, 0)
			if came := q.stepByStep(who, with); came < 3 {
				t.Fatalf("%d messages came", came)
			}
			for i, s := range p.states() {
				if !alike(s, q.state(i+1)) {
					t.Fatalf("a Sync made %+v, and its steps %+v", s, q.state(i+1))
				}
			}
			if !slices.EqualFunc(p.c.Way(), way, bytes.Equal) {
				t.Fatalf("on the way was %v, and is %v", way, p.c.Way())
			}
		}
		// The same numbers are used up.
		p.empties()
		p.does(asks(1, 2), 0, 1)
		q.does(asks(1, 2), 0, 1)
		p.is(q.messages()...)
	}
}

// TestSyncAnswered asks that a Sync's session is one like others: it stands in the place of the one ahead of it, and is too old for what comes behind it.
func TestSyncAnswered(t *testing.T) { // P21.2
	p := filled(t, 6)
	p.does(asks(1, 2), 0, 1)
	p.does(come(0), 0, 3)
	p.does(come(0), 0, 0)
	p.does(syncs(1, 2), 0, 0)
	p.numbered([3]int{2, 1, 2}, [3]int{3, 1, 2})
	p.does(come(0), api.ErrOld, 0)
	p.does(come(0), api.ErrOld, 0)
	// One the other way stays.
	p.does(asks(2, 1), 0, 1)
	p.does(come(0), 0, 1)
	p.does(syncs(1, 2), 0, 0)
	p.does(come(0), 0, 1)
	p.is(hand.Ack(p.state(2), 1))
}

func TestSyncDown(t *testing.T) { // P21.2
	p := busy(t)
	way := p.c.Way()
	p.does(fuse(2, 0), 0, 0)
	p.does(create(2, "x", 1), api.ErrDown, 0)
	for _, x := range []clus.Step{syncs(1, 2), syncs(2, 1), syncs(3, 2), syncs(2, 3)} {
		p.does(x, api.ErrDown, 0)
	}
	p.does(syncs(1, 3), 0, 0)
	p.does(fuse(1, 0), 0, 0)
	p.does(create(1, "x", 1), api.ErrDown, 0)
	for _, x := range []clus.Step{syncs(1, 2), syncs(2, 1), syncs(3, 2), syncs(3, 1), syncs(1, 3)} {
		p.does(x, api.ErrDown, 0)
	}
	if !slices.EqualFunc(p.c.Way(), way, bytes.Equal) {
		t.Fatalf("on the way was %v, and is %v", way, p.c.Way())
	}
}

// TestSyncFuse takes Who, and With, down at each byte of each write of a Sync.
func TestSyncFuse(t *testing.T) { // P21.2, P21.5
	// By hand: what replica 1 saves, behind each message, and replica 2.
	p := filled(t, 6)
	s, x, b := p.state(1), ask.Sess{}, p.state(2)
	p.does(asks(1, 2), 0, 1)
	p.does(come(0), 0, 3)
	x, _ = ask.Open(s, 2, 1)
	saved := []api.State{s}
	var ends []int
	all := 0
	for _, m := range p.messages() {
		var err error
		if s, x, err = take.Msg(s, x, m); err != nil {
			t.Fatal(err)
		}
		saved = append(saved, s)
		all += len(record(t, s))
		ends = append(ends, all)
	}
	then, err := hand.Take(b, hand.Ack(s, 2))
	if err != nil || !x.Over {
		t.Fatal(err)
	}
	// What is on the way stays there, whatever comes of a Sync.
	ready := func() *pair {
		p := filled(t, 6)
		p.does(asks(2, 1), 0, 1)
		p.does(twice(0), 0, 0)
		p.does(turn(1, 9), 0, 0)
		return p
	}
	way := ready().c.Way()
	stays := func(p *pair) {
		t.Helper()
		if !slices.EqualFunc(p.c.Way(), way, bytes.Equal) {
			t.Fatalf("on the way was %v, and is %v", way, p.c.Way())
		}
	}
	for _, cut := range cuts(all) {
		p := ready()
		p.does(fuse(1, cut), 0, 0)
		if cut > all {
			p.does(syncs(1, 2), 0, 0)
			if !alike(p.state(1), s) || !alike(p.state(2), then) {
				t.Fatalf("%+v, %+v;\nwant %+v, %+v", p.state(1), p.state(2), s, then)
			}
			continue
		}
		p.does(syncs(1, 2), api.ErrDown, 0)
		p.isDown(1)
		if !alike(p.state(2), b) {
			t.Fatalf("replica 2 is %+v, want %+v", p.state(2), b)
		}
		whole := 0
		for whole < len(ends) && ends[whole] <= cut {
			whole++
		}
		p.does(restart(1), 0, 0)
		if !alike(p.state(1), saved[whole]) {
			t.Fatalf("with a fuse of %d it came up as %+v, want %+v", cut, p.state(1), saved[whole])
		}
		stays(p)
		p.does(syncs(1, 2), 0, 0)
		stays(p)
	}
	// The Ack comes once the session is over: 0 is told, whether or not it is saved.
	for _, cut := range cuts(len(record(t, then))) {
		p := ready()
		p.does(fuse(2, cut), 0, 0)
		p.does(syncs(1, 2), 0, 0)
		if !alike(p.state(1), s) {
			t.Fatalf("replica 1 is %+v, want %+v", p.state(1), s)
		}
		p.came(2, b, then, len(record(t, then)), cut)
		stays(p)
	}
	// Of both.
	for _, first := range []int{1, all, all + 1} {
		p := ready()
		p.does(fuse(1, first), 0, 0)
		p.does(fuse(2, 1), 0, 0)
		if first > all {
			p.does(syncs(1, 2), 0, 0)
			p.isDown(2)
			continue
		}
		p.does(syncs(1, 2), api.ErrDown, 0)
		p.isDown(1)
		if !alike(p.state(2), b) {
			t.Fatalf("replica 2 is %+v, want %+v", p.state(2), b)
		}
	}
}

// TestSyncFull asks for ErrFull: of a session that isn't over, as there was no room, with both up.
func TestSyncFull(t *testing.T) { // P21.2
	p := begin(t, star, less(50))
	for i := range 40 {
		p.does(create(1, name(i), i), 0, 0)
	}
	for i := range 3 {
		p.does(create(2, name(39+i), 50), 0, 0)
	}
	s := p.state(2)
	p.does(syncs(1, 2), api.ErrFull, 0)
	// What has room came, and was saved; the other one got no Ack.
	got := p.state(1)
	if len(got.Store) != 40 || got.Store[39].Ver.R != 1 || got.K.Star[1] != 0 || len(got.K.L) != 1 {
		t.Fatalf("%+v", got)
	}
	if !alike(p.state(2), s) {
		t.Fatalf("%+v, want %+v", p.state(2), s)
	}
	p.does(restart(1), 0, 0)
	if !alike(p.state(1), got) {
		t.Fatalf("%+v, want %+v", p.state(1), got)
	}
	p.does(syncs(1, 2), api.ErrFull, 0)
	// With a fuse that takes Who down it is ErrDown all the same; and so is it with one that takes With down, which an Ack alone does.
	p.does(fuse(2, 0), 0, 0)
	p.does(syncs(1, 2), api.ErrFull, 0)
	p.does(fuse(1, 0), 0, 0)
	p.does(syncs(1, 2), api.ErrDown, 0)
	p.isDown(1)
	if !alike(p.state(2), s) {
		t.Fatalf("%+v, want %+v", p.state(2), s)
	}
}
