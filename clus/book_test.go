package clus_test

import (
	"bytes"
	"math/big"
	"reflect"
	"slices"
	"testing"

	"gallipot/api"
	"gallipot/ask"
	"gallipot/clus"
	"gallipot/enc"
	"gallipot/hand"
	"gallipot/jour"
	"gallipot/local"
	"gallipot/serve"
	"gallipot/take"
)

// rep is a replica as the chapter's sentences read.
type rep struct {
	s api.State
	// saved is the state of the last record all of which got there.
	saved api.State
	kept  []byte
	fuse  int // -1: none
	down  bool
	sess  []ask.Sess
}

// letter is a message on the way, as the chapter's sentences read.
type letter struct {
	to     int
	b      []byte
	turned bool
}

// book is a cluster as the chapter's sentences read; replica 0 is none.
type book struct {
	t      *testing.T
	reps   []rep
	way    []letter
	number int
}

// among tells whether x is one of l.
func among(x int, l ...int) bool { return slices.Contains(l, x) }

// floor is n modulo m, by numbers of any length.
func floor(n, m int) int {
	return int(new(big.Int).Mod(big.NewInt(int64(n)), big.NewInt(int64(m))).Int64())
}

func (b *book) is(who int) bool { return 1 <= who && who < len(b.reps) }

// num is the number of an error.
func num(err error) int {
	if err == nil {
		return 0
	}
	return int(err.(api.Code))
}

// opened is a book of new replicas, of filters that may be.
func opened(t *testing.T, fs []api.Pred) *book {
	b := &book{t: t, reps: make([]rep, 1)}
	for i, f := range fs {
		s, err := local.New(i+1, f)
		if err != nil {
			t.Fatal(err)
		}
		b.reps = append(b.reps, rep{fuse: -1})
		b.save(i+1, s)
	}
	return b
}

// record is the record of s, which may be.
func record(t *testing.T, s api.State) []byte {
	t.Helper()
	r, err := jour.Record(s)
	if err != nil {
		t.Fatalf("the record of %+v: %v", s, err)
	}
	return r
}

// save saves s, and tells an error's number.
func (b *book) save(who int, s api.State) int {
	r, x := record(b.t, s), &b.reps[who]
	if x.fuse < 0 || x.fuse > len(r) {
		x.kept = append(x.kept, r...)
		x.s, x.saved, x.fuse = s, s, max(-1, x.fuse-len(r))
		return 0
	}
	if x.fuse == len(r) {
		x.saved = s
	}
	x.kept = append(x.kept, r[:x.fuse]...)
	x.fuse, x.down = -1, true
	return 8
}

// sent puts l on the way, and tells how many found room.
func (b *book) sent(l []letter) int {
	room := min(100-len(b.way), len(l))
	b.way = append(b.way, l[:room]...)
	return room
}

// letters are messages as bytes.
func (b *book) letters(l ...api.Msg) []letter {
	var told []letter
	for _, m := range l {
		x, err := enc.Put(m)
		if err != nil {
			b.t.Fatalf("the bytes of %+v: %v", m, err)
		}
		told = append(told, letter{to: m.To, b: x})
	}
	return told
}

// refused tells the errors that hold for all replicas and messages.
func (b *book) refused(x clus.Step) int {
	switch {
	case x.Kind < 1, x.Kind > 12:
		return 1
	case among(x.Kind, 1, 2, 3, 4, 5, 10, 11, 12) && !b.is(x.Who):
		return 1
	case among(x.Kind, 5, 11) && (!b.is(x.With) || x.With == x.Who):
		return 1
	case among(x.Kind, 6, 7, 8, 9) && len(b.way) == 0:
		return 2
	}
	return 0
}

// do does x, and tells what it is to tell.
func (b *book) do(x clus.Step) clus.Res {
	if code := b.refused(x); code > 0 {
		return clus.Res{Code: code}
	}
	if among(x.Kind, 1, 2, 3, 4, 5, 12) && b.reps[x.Who].down {
		return clus.Res{Code: 8}
	}
	at := 0
	if len(b.way) > 0 {
		at = floor(x.At, len(b.way))
	}
	switch x.Kind {
	case 5:
		return clus.Res{Out: b.sent(b.asked(x.Who, x.With))}
	case 6:
		l := b.way[at]
		b.way = slices.Concat(b.way[:at], b.way[at+1:])
		code, out := b.come(l)
		return clus.Res{Code: code, Out: b.sent(out)}
	case 11:
		return clus.Res{Code: b.sync(x.Who, x.With)}
	case 1, 2, 3, 4:
		return clus.Res{Code: b.deed(x)}
	}
	return clus.Res{Code: b.plain(x, at)}
}

// deed is a replica's own.
func (b *book) deed(x clus.Step) int {
	s, err := deed(b.reps[x.Who].s, x)
	if err != nil {
		return num(err)
	}
	return b.save(x.Who, s)
}

// deed is layer 9's answer to x.
func deed(s api.State, x clus.Step) (api.State, error) {
	switch x.Kind {
	case 1:
		return local.Create(s, x.Id, x.Text, x.Num, x.Place)
	case 2:
		return local.Update(s, x.Id, x.Text, x.Num, x.Place)
	case 3:
		return local.Delete(s, x.Id)
	}
	return local.Filter(s, x.F)
}

// plain does what lets nothing come, and tells its number.
func (b *book) plain(x clus.Step, at int) int {
	switch x.Kind {
	case 7:
		if len(b.way) >= 100 {
			return 4
		}
		l := b.way[at]
		b.way = append(b.way, letter{l.to, bytes.Clone(l.b), l.turned})
	case 8:
		b.way = slices.Concat(b.way[:at], b.way[at+1:])
	case 9:
		l := &b.way[at]
		if l.turned {
			return 3
		}
		l.b[floor(x.N, len(l.b))] ^= byte(1 + floor(x.N, 255))
		l.turned = true
	case 10:
		b.restart(&b.reps[x.Who])
	case 12:
		if x.N < 0 {
			return 1
		}
		b.reps[x.Who].fuse = x.N
	}
	return 0
}

// restart lets x begin anew.
func (b *book) restart(x *rep) {
	s, whole, err := jour.Last(x.kept)
	if err != nil || !alike(s, x.saved) {
		b.t.Fatalf("what was saved is %+v, %v; want %+v", s, err, x.saved)
	}
	x.s, x.kept, x.fuse, x.down, x.sess = s, x.kept[:whole], -1, false, nil
}

// asked opens a session, and tells its message.
func (b *book) asked(who, with int) []letter {
	x := &b.reps[who]
	b.number++
	s, m := ask.Open(x.s, with, b.number)
	x.sess = append(slices.DeleteFunc(x.sess, func(s ask.Sess) bool { return s.With == with }), s)
	return b.letters(m)
}

// session is who's with that one.
func (b *book) session(who, with int) *ask.Sess {
	for i := range b.reps[who].sess {
		if s := &b.reps[who].sess[i]; s.With == with {
			return s
		}
	}
	return nil
}

// come lets l come, and tells an error's number, and what goes out.
func (b *book) come(l letter) (int, []letter) {
	x := &b.reps[l.to]
	if x.down {
		return 8, nil
	}
	m, err := enc.Get(l.b)
	if err != nil {
		return num(err), nil
	}
	switch m.Kind {
	case 1:
		b.number++
		return 0, b.letters(serve.Answer(x.s, m, b.number)...)
	case 4:
		s, err := hand.Take(x.s, m)
		if err != nil {
			return num(err), nil
		}
		return b.save(l.to, s), nil
	}
	sess := b.session(l.to, m.From)
	if sess == nil || sess.Sid != m.Sid {
		return 9, nil
	}
	s, then, err := take.Msg(x.s, *sess, m)
	if err != nil {
		return num(err), nil
	}
	if code := b.save(l.to, s); code > 0 {
		return code, nil
	}
	if *sess = then; then.Over {
		return 0, b.letters(hand.Ack(s, then.With))
	}
	return 0, nil
}

// sync is the same as its steps one by one, on a way of its own that has room.
func (b *book) sync(who, with int) int {
	if b.reps[who].down || b.reps[with].down {
		return 8
	}
	l := b.asked(who, with)
	for i := 0; i < len(l); i++ {
		_, out := b.come(l[i])
		l = append(l, out...)
	}
	switch {
	case b.session(who, with).Over:
		return 0
	case b.reps[who].down || b.reps[with].down:
		return 8
	}
	return 4
}

// pair is a cluster, and the book beside it.
type pair struct {
	t *testing.T
	c *clus.Clus
	b *book
	// made are the items of all versions that were made, each as it was made.
	made map[api.Ver]api.Item
}

// begin is a new cluster of those filters, and its book.
func begin(t *testing.T, fs ...api.Pred) *pair {
	t.Helper()
	c, err := clus.New(fs)
	if err != nil || c == nil {
		t.Fatalf("New(%+v): %v", fs, err)
	}
	p := &pair{t, c, opened(t, fs), map[api.Ver]api.Item{}}
	p.check("New")
	return p
}

// do does x at both, asks that they are the same then, and for what follows, and tells what it told.
func (p *pair) do(x clus.Step) clus.Res {
	p.t.Helper()
	states, way := p.states(), p.c.Way()
	turned := x.Kind == 6 && len(p.b.way) > 0 && p.b.way[floor(x.At, len(way))].turned
	want := p.b.do(x)
	got := p.c.Do(x)
	if got != want {
		p.t.Fatalf("%+v: %+v, want %+v", x, got, want)
	}
	p.check(x)
	p.checkFollows(x, got, states, way, turned)
	return got
}

// states are those of all replicas; a zero one of one that is down.
func (p *pair) states() []api.State {
	var l []api.State
	for who := range p.b.reps[1:] {
		s, _ := p.c.State(who + 1)
		l = append(l, s)
	}
	return l
}

// check holds the cluster against the book.
func (p *pair) check(what any) {
	p.t.Helper()
	if n := p.c.Reps(); n != len(p.b.reps)-1 {
		p.t.Fatalf("%+v: %d replicas", what, n)
	}
	for who := -1; who <= len(p.b.reps); who++ {
		s, err := p.c.State(who)
		want, code := api.State{}, 1
		if p.b.is(who) {
			code = 8
			if !p.b.reps[who].down {
				want, code = p.b.reps[who].s, 0
			}
		}
		if num(err) != code || !alike(s, want) {
			p.t.Fatalf("%+v: replica %d is %+v, %v;\nwant %+v, %d", what, who, s, err, want, code)
		}
		if code == 0 && !local.May(s) {
			p.t.Fatalf("%+v: replica %d may not be: %+v", what, who, s)
		}
		p.checkMade(s)
	}
	way := p.c.Way()
	if !slices.EqualFunc(way, p.b.way, func(b []byte, l letter) bool { return bytes.Equal(b, l.b) }) {
		p.t.Fatalf("%+v: on the way is %v;\nwant %+v", what, way, p.b.way)
	}
}

// checkMade asks that each version is as it was made: that none was made twice.
func (p *pair) checkMade(s api.State) {
	p.t.Helper()
	for _, x := range slices.Concat(s.Store, s.Out) {
		was, there := p.made[x.Ver]
		if there && was != x {
			p.t.Fatalf("%+v was made as %+v", x, was)
		}
		p.made[x.Ver] = x
	}
}

// checkFollows asks for what follows: P21.5, R3.
func (p *pair) checkFollows(x clus.Step, r clus.Res, states []api.State, way [][]byte, turned bool) {
	p.t.Helper()
	now := p.c.Way()
	if len(now) > 100 {
		p.t.Fatalf("%+v: %d are on the way", x, len(now))
	}
	if r.Code > 0 && r.Out > 0 {
		p.t.Fatalf("%+v: %+v", x, r)
	}
	for i, s := range p.states() {
		down := reflect.ValueOf(s).IsZero()
		same := alike(s, states[i]) || r.Code == 8 && down
		if (turned || r.Code > 0 && x.Kind != 11) && !same {
			p.t.Fatalf("%+v, %+v: replica %d was %+v, and is %+v", x, r, i+1, states[i], s)
		}
		if x.Kind == 10 && x.Who == i+1 && r.Code == 0 && !alike(s, p.b.reps[i+1].saved) {
			p.t.Fatalf("%+v: replica %d is %+v, and what was saved %+v", x, i+1, s, p.b.reps[i+1].saved)
		}
	}
	stays := len(way)
	if among(x.Kind, 6, 8) && r.Code != 2 {
		stays--
	}
	if x.Kind == 7 && r.Code == 0 {
		stays++
	}
	if len(now) != stays+r.Out {
		p.t.Fatalf("%+v, %+v: %d were on the way, and %d are", x, r, len(way), len(now))
	}
}

// does does x, and asks for its number, and how many messages went out.
func (p *pair) does(x clus.Step, code api.Code, out int) {
	p.t.Helper()
	if r := p.do(x); r.Code != int(code) || r.Out != out {
		p.t.Fatalf("%+v: %+v, want %d, %d", x, r, code, out)
	}
}

// state is who's, which is up.
func (p *pair) state(who int) api.State {
	p.t.Helper()
	s, err := p.c.State(who)
	if err != nil {
		p.t.Fatalf("State(%d): %v", who, err)
	}
	return s
}

// isDown asks that who is down.
func (p *pair) isDown(who int) {
	p.t.Helper()
	if s, err := p.c.State(who); err != api.ErrDown || !reflect.ValueOf(s).IsZero() {
		p.t.Fatalf("State(%d): %+v, %v", who, s, err)
	}
}

// messages are those on the way, none of which was turned.
func (p *pair) messages() []api.Msg {
	p.t.Helper()
	var l []api.Msg
	for i, b := range p.c.Way() {
		m, err := enc.Get(b)
		if err != nil {
			p.t.Fatalf("what is on the way at %d: %v", i, err)
		}
		l = append(l, m)
	}
	return l
}

// last is the last one on the way, which wasn't turned.
func (p *pair) last() api.Msg {
	p.t.Helper()
	way := p.c.Way()
	m, err := enc.Get(way[len(way)-1])
	if err != nil {
		p.t.Fatalf("what is on the way last: %v", err)
	}
	return m
}

// is asks for the messages on the way.
func (p *pair) is(want ...api.Msg) {
	p.t.Helper()
	got := p.messages()
	if !slices.EqualFunc(got, want, func(a, b api.Msg) bool { return alike(a, b) }) {
		p.t.Fatalf("on the way is %+v;\nwant %+v", got, want)
	}
}

// empties loses all that is on the way.
func (p *pair) empties() {
	p.t.Helper()
	for len(p.c.Way()) > 0 {
		p.does(lose(0), 0, 0)
	}
}

// fills puts messages on the way till there are n: Asks of replica 1 to 2, once more and once more.
func (p *pair) fills(n int) {
	p.t.Helper()
	if len(p.c.Way()) == 0 {
		p.does(asks(1, 2), 0, 1)
	}
	for len(p.c.Way()) < n {
		p.does(twice(0), 0, 0)
	}
}

// The steps, by their kinds.

func create(who int, id string, num int) clus.Step {
	return clus.Step{Kind: 1, Who: who, Id: id, Text: "pot", Num: num, Place: 3 - 4i}
}

func update(who int, id string, num int) clus.Step {
	return clus.Step{Kind: 2, Who: who, Id: id, Text: "cup", Num: num, Place: -7i}
}

func erase(who int, id string) clus.Step   { return clus.Step{Kind: 3, Who: who, Id: id} }
func filter(who int, f api.Pred) clus.Step { return clus.Step{Kind: 4, Who: who, F: f} }
func asks(who, with int) clus.Step         { return clus.Step{Kind: 5, Who: who, With: with} }
func come(at int) clus.Step                { return clus.Step{Kind: 6, At: at} }
func twice(at int) clus.Step               { return clus.Step{Kind: 7, At: at} }
func lose(at int) clus.Step                { return clus.Step{Kind: 8, At: at} }
func turn(at, n int) clus.Step             { return clus.Step{Kind: 9, At: at, N: n} }
func restart(who int) clus.Step            { return clus.Step{Kind: 10, Who: who} }
func syncs(who, with int) clus.Step        { return clus.Step{Kind: 11, Who: who, With: with} }
func fuse(who, n int) clus.Step            { return clus.Step{Kind: 12, Who: who, N: n} }

// name is an Id, of each i below 676 another one; they rise.
func name(i int) string { return string([]byte{byte('a' + i/26), byte('a' + i%26)}) }

var (
	star = api.Pred{Op: api.Star}
	none = api.Pred{Op: api.None}
)

func and(kids ...api.Pred) api.Pred      { return api.Pred{Op: api.And, Kids: kids} }
func or(kids ...api.Pred) api.Pred       { return api.Pred{Op: api.Or, Kids: kids} }
func not(kids ...api.Pred) api.Pred      { return api.Pred{Op: api.Not, Kids: kids} }
func less(n int) api.Pred                { return api.Pred{Op: api.Less, N: n} }
func more(n int) api.Pred                { return api.Pred{Op: api.More, N: n} }
func near(at complex128, n int) api.Pred { return api.Pred{Op: api.Near, At: at, N: n} }
func texts(op int, text string) api.Pred { return api.Pred{Op: op, Text: text} }

// filters may be.
func filters() []api.Pred {
	return []api.Pred{
		star, none, less(5), more(5), less(3), less(8), more(-1000000), texts(api.Kind, "pot"), texts(api.Kind, ""), texts(api.Prefix, "a"), texts(api.Prefix, ""), near(3-4i, 0), near(0, 25), near(-1000i, 8000000),
		and(), or(), and(star, less(7)), or(none, less(5), texts(api.Kind, "pot")), not(less(5)), not(none), not(not(not(not(not(star))))), or(slices.Repeat([]api.Pred{less(5)}, 29)...), or(and(less(5), or(star)), and(not(more(9)))),
	}
}

// oddFilters may not be.
func oddFilters() []api.Pred {
	return []api.Pred{
		{}, {Op: -1}, {Op: 11}, {Op: api.Star, N: 1}, {Op: api.None, Text: "a"}, not(), not(star, star), texts(api.Kind, "A"), texts(api.Prefix, "abcdefghi"), less(1000001), more(-1000001), near(1001, 0), near(0, -1), near(0.5, 0), and(star, api.Pred{}),
		or(slices.Repeat([]api.Pred{star}, 30)...), not(not(not(not(not(not(star)))))),
	}
}
