package enc

import (
	"gallipot/api"
	"gallipot/code"
)

// Each of these tells b with the bytes of something that may be behind it.

func putMsg(b []byte, m api.Msg) []byte {
	b = putNums(b, m.Kind, m.From, m.To)
	switch m.Kind {
	case api.Ask:
		b = putKnow(putFilter(putNums(b, m.Sid), m.F), m.K)
		return putMany(b, m.Have, putHas)
	case api.Batch:
		return putMany(putNums(b, m.Sid, m.Turn, m.N), m.L, putEntry)
	case api.Done:
		b = putKnow(putNums(b, m.Sid, m.Turn, m.N), m.K)
		return putMany(b, m.L, putEntry)
	}
	return putFlag(putKnow(b, m.K), m.Star)
}

func putState(b []byte, s api.State) []byte {
	b = putFilter(putNums(b, s.R), s.F)
	b = putMany(putMany(b, s.Store, putItem), s.Out, putItem)
	return putNums(putKnow(b, s.K), s.Count, s.Clock, s.Epoch)
}

func putFilter(b []byte, p api.Pred) []byte {
	b = putNums(b, p.Op)
	switch p.Op {
	case api.Kind, api.Prefix:
		return putText(b, p.Text)
	case api.Less, api.More:
		return putNums(b, p.N)
	case api.Near:
		return putNums(putPlace(b, p.At), p.N)
	case api.And, api.Or:
		return putMany(b, p.Kids, putFilter)
	case api.Not:
		return putFilter(b, p.Kids[0])
	}
	return b
}

func putKnow(b []byte, k api.Know) []byte {
	return putMany(putNums(b, k.Star[:]...), k.L, putFrag)
}

func putFrag(b []byte, f api.Frag) []byte {
	return putNums(putMany(b, f.Ids, putText), f.Vec[:]...)
}

func putEntry(b []byte, e api.Entry) []byte {
	b = putFlag(b, e.Goes)
	if e.Goes {
		return putVer(putVer(putText(b, e.Item.Id), e.Item.Ver), e.New)
	}
	return putItem(b, e.Item)
}

func putHas(b []byte, h api.Has) []byte {
	return putNums(putVer(putText(b, h.Id), h.Ver), h.Stamp)
}

func putItem(b []byte, x api.Item) []byte {
	b = putNums(putVer(putText(b, x.Id), x.Ver), x.Stamp)
	b = putNums(putText(b, x.Kind), x.Num)
	return putFlag(putPlace(b, x.At), x.Dead)
}

func putPlace(b []byte, c complex128) []byte {
	return putNums(b, int(real(c)), int(imag(c)))
}

func putVer(b []byte, v api.Ver) []byte {
	return putNums(b, v.R, v.C)
}

func putFlag(b []byte, set bool) []byte {
	if set {
		return putNums(b, 1)
	}
	return putNums(b, 0)
}

func putMany[T any](b []byte, l []T, put func(b []byte, x T) []byte) []byte {
	b = putNums(b, len(l))
	for _, x := range l {
		b = put(b, x)
	}
	return b
}

func putText(b []byte, s string) []byte {
	return append(b, code.Text(s)...)
}

func putNums(b []byte, l ...int) []byte {
	for _, n := range l {
		b = append(b, code.Num(n)...)
	}
	return b
}
