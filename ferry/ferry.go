// Package ferry: processes as texts, their runs as tokens: see DOC.md.
package ferry

import (
	"ferry/api"
	"ferry/disk"
	"ferry/models"
)

// Engine has models and runs.
type Engine struct{}

// Read reads a model (P3).
func Read(text string) (api.Model, api.Errno) { return models.Read(text) }

// Write writes a model (P4).
func Write(m api.Model) (string, api.Errno) { return models.Write(m) }

// Open makes an engine of what is on a disk (P5, P12).
func Open(d *disk.Disk) (*Engine, api.Errno) { return nil, api.OK }

// Deploy takes a model (P6).
func (x *Engine) Deploy(text string) (int, api.Errno) { return 0, api.OK }

// Start begins a run (P7).
func (x *Engine) Start(model int, vars [8]int32) (int, api.Errno) { return 0, api.OK }

// Complete says that an item's task is done (P8).
func (x *Engine) Complete(run int, item int, sets []api.Set) api.Errno { return api.OK }

// Tick lets the time go on (P9).
func (x *Engine) Tick(n int) api.Errno { return api.OK }

// Now tells the time (P9).
func (x *Engine) Now() int { return 0 }

// Model tells a model (P6).
func (x *Engine) Model(model int) (api.Model, api.Errno) { return api.Model{}, api.OK }

// Look tells a run's state (P10).
func (x *Engine) Look(run int) (api.State, api.Errno) { return api.State{}, api.OK }
