package clus

import (
	"gallipot/api"
	"gallipot/ask"
	"gallipot/disk"
	"gallipot/hand"
	"gallipot/jour"
	"gallipot/local"
	"gallipot/take"
)

// replica is one of a cluster; its calls, but for restart, are made while it is up.
type replica struct {
	state api.State
	disk  *disk.Disk
	// sess are its sessions, by whom they are with. One that is over stays, as what comes for it is refused by layer 13.
	sess map[int]ask.Sess
}

// begin tells replica r, new.
func begin(r int, f api.Pred) (replica, error) {
	s, err := local.New(r, f)
	if err != nil {
		return replica{}, err
	}
	x := replica{disk: disk.New(), sess: map[int]ask.Sess{}}
	return x, x.save(s)
}

// save saves s, which is r's state then, unless there is an error.
func (r *replica) save(s api.State) error {
	if err := jour.Save(r.disk, s); err != nil {
		return err
	}
	r.state = s
	return nil
}

// restart lets r begin anew, up or down.
func (r *replica) restart() error {
	r.disk.Up()
	clear(r.sess)
	s, err := jour.Load(r.disk)
	if err != nil {
		return err
	}
	r.state = s
	return nil
}

// change lets r do by itself what x is.
func (r *replica) change(x Step) error {
	if r.disk.Down() {
		return api.ErrDown
	}
	s, err := changed(r.state, x)
	if err != nil {
		return err
	}
	return r.save(s)
}

// changed tells what s is behind x.
func changed(s api.State, x Step) (api.State, error) {
	switch x.Kind {
	case stepCreate:
		return local.Create(s, x.Id, x.Text, x.Num, x.Place)
	case stepUpdate:
		return local.Update(s, x.Id, x.Text, x.Num, x.Place)
	case stepDelete:
		return local.Delete(s, x.Id)
	}
	return local.Filter(s, x.F)
}

// open opens a session, in the place of one that r has with that replica, and tells its Ask.
func (r *replica) open(with, sid int) api.Msg {
	x, m := ask.Open(r.state, with, sid)
	r.sess[with] = x
	return m
}

// told takes a part of an answer, and tells what goes out.
func (r *replica) told(m api.Msg) ([]api.Msg, error) {
	x, there := r.sess[m.From]
	if !there || x.Sid != m.Sid {
		return nil, api.ErrOld
	}
	s, x, err := take.Msg(r.state, x, m)
	if err != nil {
		return nil, err
	}
	if err := r.save(s); err != nil {
		return nil, err
	}
	r.sess[m.From] = x
	if !x.Over {
		return nil, nil
	}
	return []api.Msg{hand.Ack(s, x.With)}, nil
}

// acked takes an Ack.
func (r *replica) acked(m api.Msg) error {
	s, err := hand.Take(r.state, m)
	if err != nil {
		return err
	}
	return r.save(s)
}
