// Package ferry: processes as texts, their runs as tokens: see DOC.md.
package ferry

import (
	"ferry/api"
	"ferry/disk"
	"ferry/models"
	"ferry/world"
)

// Engine has models and runs.
type Engine struct {
	world world.World
}

// Read reads a model (P3).
func Read(text string) (api.Model, api.Errno) { return models.Read(text) }

// Write writes a model (P4).
func Write(m api.Model) (string, api.Errno) { return models.Write(m) }

// Open makes an engine of what is on a disk (P5, P12).
func Open(d *disk.Disk) (*Engine, api.Errno) { return &Engine{}, api.OK }

// Deploy takes a model (P6).
func (x *Engine) Deploy(text string) (int, api.Errno) {
	next, number, e := x.world.Deploy(text)
	return number, x.goOn(next, e)
}

// Start begins a run (P7).
func (x *Engine) Start(model int, vars [8]int32) (int, api.Errno) {
	next, number, e := x.world.Start(model, vars)
	return number, x.goOn(next, e)
}

// Complete says that an item's task is done (P8).
func (x *Engine) Complete(run int, item int, sets []api.Set) api.Errno {
	return x.goOn(x.world.Complete(run, item, sets))
}

// Tick lets the time go on (P9).
func (x *Engine) Tick(n int) api.Errno {
	return x.goOn(x.world.Tick(n))
}

// goOn takes up what a command has made of the world, if it was not refused.
func (x *Engine) goOn(next world.World, e api.Errno) api.Errno {
	if e == api.OK {
		x.world = next
	}
	return e
}

// Now tells the time (P9).
func (x *Engine) Now() int { return x.world.Now() }

// Model tells a model (P6).
func (x *Engine) Model(model int) (api.Model, api.Errno) { return x.world.Model(model) }

// Look tells a run's state (P10).
func (x *Engine) Look(run int) (api.State, api.Errno) { return x.world.Look(run) }
