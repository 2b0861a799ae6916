// Package world has the time, the models and the runs, and what the commands make of them.
package world

import (
	"slices"

	"ferry/api"
	"ferry/models"
	"ferry/tokens"
)

// World is all that there is at a time. A command leaves it as it is, and tells the one that comes behind it; so one that is refused has changed nothing.
type World struct {
	now    int
	models []api.Model
	runs   []api.State // all at rest
}

// has tells whether a list of this length has a place of this number.
func has(length, number int) bool {
	return 0 <= number && number < length
}

// Now tells the time (P9).
func (w World) Now() int {
	return w.now
}

// Model tells a model (P6).
func (w World) Model(model int) (api.Model, api.Errno) {
	if !has(len(w.models), model) {
		return api.Model{}, api.ErrNone
	}
	return models.Copy(w.models[model]), api.OK
}

// Look tells a run's state (P10).
func (w World) Look(run int) (api.State, api.Errno) {
	if !has(len(w.runs), run) {
		return api.State{}, api.ErrNone
	}
	return tokens.Copy(w.runs[run]), api.OK
}

// Deploy takes a model, whose number it tells (P6).
func (w World) Deploy(text string) (World, int, api.Errno) {
	m, e := models.Read(text)
	if e != api.OK {
		return World{}, 0, e
	}
	number := len(w.models)
	if number == api.MaxModels {
		return World{}, 0, api.ErrFull
	}
	w.models = append(slices.Clone(w.models), m)
	return w, number, api.OK
}
