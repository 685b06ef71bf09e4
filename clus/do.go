package clus

import (
	"errors"
	"slices"

	"gallipot/api"
	"gallipot/enc"
	"gallipot/serve"
)

// Kinds of steps.
const (
	stepCreate = 1 + iota
	stepUpdate
	stepDelete
	stepFilter
	stepAsk
	stepCome
	stepTwice
	stepLose
	stepTurn
	stepRestart
	stepSync
	stepFuse
)

// mostTurned is how many values a byte can be turned by.
const mostTurned = 255

// Do does a step: P21.2.
func (c *Clus) Do(x Step) Res {
	if err := c.refused(x); err != nil {
		return Res{Code: number(err)}
	}
	l, err := c.step(x)
	if err != nil {
		return Res{Code: number(err)}
	}
	return Res{Out: c.send(packed(l))}
}

// number is the number of an error of the layers.
func number(err error) int {
	var code api.Code
	errors.As(err, &code)
	return int(code)
}

// refused tells why x isn't done, whatever the replicas and the messages are that it is of.
func (c *Clus) refused(x Step) error {
	fine := false
	switch x.Kind {
	case stepCreate, stepUpdate, stepDelete, stepFilter, stepRestart, stepFuse:
		fine = c.has(x.Who)
	case stepAsk, stepSync:
		fine = c.has(x.Who) && c.has(x.With) && x.Who != x.With
	case stepCome, stepTwice, stepLose, stepTurn:
		if len(c.way) == 0 {
			return api.ErrNone
		}
		fine = true
	}
	if !fine {
		return api.ErrArg
	}
	return nil
}

// step does x, which isn't refused, and tells what goes out: nothing with an error.
func (c *Clus) step(x Step) ([]api.Msg, error) {
	switch x.Kind {
	case stepAsk:
		return c.ask(x)
	case stepCome:
		return c.come(c.off(x.At))
	case stepTwice:
		return nil, c.twice(x.At)
	case stepLose:
		c.off(x.At)
		return nil, nil
	case stepTurn:
		return nil, c.turn(x)
	case stepRestart:
		return nil, c.rep(x.Who).restart()
	case stepSync:
		return nil, c.sync(x)
	case stepFuse:
		return nil, c.rep(x.Who).disk.Fuse(x.N)
	}
	return nil, c.rep(x.Who).change(x)
}

// ask lets Who open a session with With.
func (c *Clus) ask(x Step) ([]api.Msg, error) {
	r := c.rep(x.Who)
	if r.disk.Down() {
		return nil, api.ErrDown
	}
	return []api.Msg{r.open(x.With, c.next())}, nil
}

// come lets p come to the replica that it goes to, and tells what goes out: P21.3.
func (c *Clus) come(p parcel) ([]api.Msg, error) {
	r := c.rep(p.to)
	if r.disk.Down() {
		return nil, api.ErrDown
	}
	m, err := enc.Get(p.bytes)
	if err != nil {
		return nil, err
	}
	switch m.Kind {
	case api.Ask:
		return serve.Answer(r.state, m, c.next()), nil
	case api.Ack:
		return nil, r.acked(m)
	}
	return r.told(m)
}

// twice lets what is at At be on the way once more.
func (c *Clus) twice(at int) error {
	if len(c.way) >= api.MaxWay {
		return api.ErrFull
	}
	p := c.way[c.place(at)]
	// Each of both is turned by itself from now on.
	p.bytes = slices.Clone(p.bytes)
	c.way = append(c.way, p)
	return nil
}

// turn turns a byte of what is at At.
func (c *Clus) turn(x Step) error {
	p := &c.way[c.place(x.At)]
	if p.turned {
		return api.ErrInUse
	}
	p.bytes[rest(x.N, len(p.bytes))] ^= byte(1 + rest(x.N, mostTurned))
	p.turned = true
	return nil
}

// sync lets Who ask With, and all that goes out come at once.
func (c *Clus) sync(x Step) error {
	who, with := c.rep(x.Who), c.rep(x.With)
	if who.disk.Down() || with.disk.Down() {
		return api.ErrDown
	}
	l := packed([]api.Msg{who.open(x.With, c.next())})
	for len(l) > 0 {
		// Of what is lost, or refused, nothing goes out; whether the session is over then is all that a Sync tells.
		out, _ := c.come(l[0])
		l = append(l[1:], packed(out)...)
	}
	switch {
	case who.sess[x.With].Over:
		return nil
	case who.disk.Down() || with.disk.Down():
		return api.ErrDown
	}
	return api.ErrFull
}
