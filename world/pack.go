package world

import (
	"ferry/api"
	"ferry/models"
	"ferry/packed"
	"ferry/tokens"
)

// Pack makes bytes of the time and the runs. (The models are in the texts of which they were read.)
func (w World) Pack() string {
	parts := []string{packed.Numbers(w.now, len(w.runs))}
	for _, s := range w.runs {
		parts = append(parts, packState(s))
	}
	return packed.Join(parts...)
}

func packState(s api.State) string {
	parts := []string{packed.Numbers(s.Model, s.Done, s.Next, len(s.Items), len(s.Scopes), len(s.Waits))}
	for _, v := range s.Vars {
		parts = append(parts, packed.Numbers(int(uint32(v))))
	}
	for _, x := range s.Items {
		parts = append(parts, packed.Numbers(x.Number, x.Place, x.Scope, x.Due))
	}
	for _, x := range s.Scopes {
		parts = append(parts, packed.Numbers(x.Number, x.Place, x.Scope, x.Due))
	}
	for _, x := range s.Waits {
		parts = append(parts, packed.Numbers(x.Place, x.Scope, x.Way, x.Count))
	}
	return packed.Join(parts...)
}

// Unpack makes a world of its models' texts and of the bytes of the rest, behind which others may stand; noughts are a world at time 0 without runs. False: they are of no world.
func Unpack(texts []string, rest string) (World, bool) {
	var w World
	for _, t := range texts {
		m, e := models.Read(t)
		if e != api.OK {
			return World{}, false
		}
		w.models = append(w.models, m)
	}
	r := packed.Open(rest)
	runs := 0
	r.Numbers(&w.now, &runs)
	if len(w.models) > api.MaxModels || runs > api.MaxRuns || w.now > api.MaxNow {
		return World{}, false
	}
	for range runs {
		s := unpackState(r)
		if !has(len(w.models), s.Model) || !tokens.Sound(w.models[s.Model].Nodes, s) {
			return World{}, false
		}
		w.runs = append(w.runs, s)
	}
	return w, r.Good()
}

func unpackState(r *packed.Reader) api.State {
	var s api.State
	var items, scopes, waits int
	r.Numbers(&s.Model, &s.Done, &s.Next, &items, &scopes, &waits)
	for i := range s.Vars {
		v := 0
		r.Numbers(&v)
		s.Vars[i] = int32(uint32(v))
	}
	s.Items = unpackAll(r, items, func(x *api.Item) { r.Numbers(&x.Number, &x.Place, &x.Scope, &x.Due) })
	s.Scopes = unpackAll(r, scopes, func(x *api.Scope) { r.Numbers(&x.Number, &x.Place, &x.Scope, &x.Due) })
	s.Waits = unpackAll(r, waits, func(x *api.Wait) { r.Numbers(&x.Place, &x.Scope, &x.Way, &x.Count) })
	return s
}

// unpackAll takes so many of a kind.
func unpackAll[T any](r *packed.Reader, count int, take func(x *T)) []T {
	var l []T
	for len(l) < count && r.Good() {
		var x T
		take(&x)
		l = append(l, x)
	}
	return l
}
