package enc

import (
	"gallipot/api"
	"gallipot/code"
)

// reader reads one thing behind the other from the beginning of rest. Once one isn't there it is bad, and all that it reads is zero. Whether what it reads may be isn't asked here.
type reader struct {
	rest  []byte
	bad   bool
	parts int // how many of a filter were begun
}

// ended tells whether all was there, and no more.
func (r *reader) ended() bool {
	return !r.bad && len(r.rest) == 0
}

func (r *reader) fail() {
	r.rest, r.bad = nil, true
}

func (r *reader) msg() api.Msg {
	m := api.Msg{Kind: r.num(), From: r.num(), To: r.num()}
	switch m.Kind {
	case api.Ask:
		m.Sid, m.F, m.K, m.Have = r.num(), r.filter(), r.know(), many(r, r.has)
	case api.Batch:
		m.Sid, m.Turn, m.N, m.L = r.num(), r.num(), r.num(), many(r, r.entry)
	case api.Done:
		m.Sid, m.Turn, m.N, m.K, m.L = r.num(), r.num(), r.num(), r.know(), many(r, r.entry)
	case api.Ack:
		m.K, m.Star = r.know(), r.flag()
	}
	return m
}

func (r *reader) state() api.State {
	return api.State{
		R: r.num(), F: r.filter(), Store: many(r, r.item), Out: many(r, r.item), K: r.know(),
		Count: r.num(), Clock: r.num(), Epoch: r.num(),
	}
}

func (r *reader) filter() api.Pred {
	r.parts++
	// Bytes may tell a filter far larger, and deeper, than one that may be: there is no room for all of it.
	if r.parts > api.MaxSize {
		r.fail()
	}
	p := api.Pred{Op: r.num()}
	switch p.Op {
	case api.Kind, api.Prefix:
		p.Text = r.text()
	case api.Less, api.More:
		p.N = r.num()
	case api.Near:
		p.At, p.N = r.place(), r.num()
	case api.And, api.Or:
		p.Kids = many(r, r.filter)
	case api.Not:
		p.Kids = []api.Pred{r.filter()}
	}
	return p
}

func (r *reader) know() api.Know {
	return api.Know{Star: r.vec(), L: many(r, r.frag)}
}

func (r *reader) frag() api.Frag {
	return api.Frag{Ids: many(r, r.text), Vec: r.vec()}
}

func (r *reader) vec() api.Vec {
	var v api.Vec
	for i := range v {
		v[i] = r.num()
	}
	return v
}

func (r *reader) entry() api.Entry {
	if r.flag() {
		return api.Entry{Goes: true, Item: api.Item{Id: r.text(), Ver: r.ver()}, New: r.ver()}
	}
	return api.Entry{Item: r.item()}
}

func (r *reader) has() api.Has {
	return api.Has{Id: r.text(), Ver: r.ver(), Stamp: r.num()}
}

func (r *reader) item() api.Item {
	return api.Item{
		Id: r.text(), Ver: r.ver(), Stamp: r.num(), Kind: r.text(), Num: r.num(), At: r.place(), Dead: r.flag(),
	}
}

func (r *reader) place() complex128 {
	return complex(float64(r.num()), float64(r.num()))
}

func (r *reader) ver() api.Ver {
	return api.Ver{R: r.num(), C: r.num()}
}

func (r *reader) flag() bool {
	n := r.num()
	if n != 0 && n != 1 {
		r.fail()
	}
	return n == 1
}

func (r *reader) text() string {
	s, used := code.GetText(r.rest)
	r.skip(used)
	return s
}

func (r *reader) num() int {
	n, used := code.GetNum(r.rest)
	r.skip(used)
	return n
}

// skip goes past what was read of so many bytes; of none, it wasn't there.
func (r *reader) skip(used int) {
	if used == 0 {
		r.fail()
	}
	r.rest = r.rest[used:]
}

// many reads how many there are, and these, each by one.
func many[T any](r *reader, one func() T) []T {
	n := r.num()
	if n < 0 {
		r.fail()
	}
	var l []T
	// No room is made for n ahead of reading them: it may be far greater than what is there.
	for len(l) < n && !r.bad {
		l = append(l, one())
	}
	return l
}
