package models

import (
	"slices"

	"ferry/api"
)

// Copy tells a model with lists of its own.
func Copy(m api.Model) api.Model {
	m.Nodes = slices.Clone(m.Nodes)
	for i, n := range m.Nodes {
		m.Nodes[i].Cases = slices.Clone(n.Cases)
		m.Nodes[i].Branches = slices.Clone(n.Branches)
	}
	return m
}
