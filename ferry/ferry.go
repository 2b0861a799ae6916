// Package ferry: processes as texts, their runs as tokens: see DOC.md.
package ferry

import (
	"ferry/api"
	"ferry/disk"
	"ferry/models"
	"ferry/store"
	"ferry/world"
)

// Engine has models and runs.
type Engine struct {
	world    world.World // behind the last command that was answered OK
	store    *store.Store
	readOnly bool // the disk has failed
}

// Read reads a model (P3).
func Read(text string) (api.Model, api.Errno) { return models.Read(text) }

// Write writes a model (P4).
func Write(m api.Model) (string, api.Errno) { return models.Write(m) }

// Open makes an engine of what is on a disk (P5, P12).
func Open(d *disk.Disk) (*Engine, api.Errno) {
	if d == nil {
		return nil, api.ErrDisk
	}
	s, saved, ok := store.Open(d)
	if !ok {
		return nil, api.ErrDisk
	}
	w, ok := world.Unpack(saved.Texts, saved.State)
	if !ok {
		return nil, api.ErrDisk
	}
	return &Engine{world: w, store: s}, api.OK
}

// Deploy takes a model (P6).
func (x *Engine) Deploy(text string) (int, api.Errno) {
	next, number, e := x.world.Deploy(text)
	if e = x.goOn(next, e, text); e != api.OK {
		return 0, e
	}
	return number, api.OK
}

// Start begins a run (P7).
func (x *Engine) Start(model int, vars [8]int32) (int, api.Errno) {
	next, number, e := x.world.Start(model, vars)
	if e = x.goOn(next, e); e != api.OK {
		return 0, e
	}
	return number, api.OK
}

// Complete says that an item's task is done (P8).
func (x *Engine) Complete(run int, item int, sets []api.Set) api.Errno {
	return x.goOn(x.world.Complete(run, item, sets))
}

// Tick lets the time go on (P9).
func (x *Engine) Tick(n int) api.Errno {
	return x.goOn(x.world.Tick(n))
}

// goOn takes up what a command has made of the world, and the texts that it has added, if it was not refused and is safe on the disk (P11).
func (x *Engine) goOn(next world.World, e api.Errno, added ...string) api.Errno {
	switch {
	case e != api.OK:
		return e
	case x.readOnly:
		return api.ErrReadOnly
	case !x.store.Save(next.Pack(), added...):
		x.readOnly = true
		return api.ErrDisk
	}
	x.world = next
	return api.OK
}

// Now tells the time (P9).
func (x *Engine) Now() int { return x.world.Now() }

// Model tells a model (P6).
func (x *Engine) Model(model int) (api.Model, api.Errno) { return x.world.Model(model) }

// Look tells a run's state (P10).
func (x *Engine) Look(run int) (api.State, api.Errno) { return x.world.Look(run) }
