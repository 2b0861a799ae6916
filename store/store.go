// Package store keeps texts and a state on a disk, so that a crash leaves all of what was saved last; or, if it came while something was being saved, perhaps all of that.
package store

import (
	"strings"

	"ferry/disk"
	"ferry/packed"
)

// room is the number of sectors of each of the blocks into which the disk is parted: enough for the longest text (12000 bytes) and the longest state (20 runs of at most 370 bytes).
const room = 64

// The blocks. The head is the first sector alone. A state is never written over the one that holds, as they stand in two blocks by turns; a text stays where it is.
const (
	head   = 0
	states = 1
	texts  = 3
	blocks = disk.Sectors / room
)

// Store has a disk.
type Store struct {
	disk  *disk.Disk
	saves int // how often something was saved: the head tells it
	texts int // how many there are: it stands ahead of the state
}

// Saved is what was saved.
type Saved struct {
	Texts []string
	State string // with other bytes behind it
}

// Open tells what was saved last: on a disk that nobody wrote on no texts, and noughts alone. (Where somebody else wrote, it may be anything.) False: the disk failed.
func Open(d *disk.Disk) (*Store, Saved, bool) {
	s := &Store{disk: d}
	packed.Open(d.Read(head)).Numbers(&s.saves)
	// What is told must be safe, which the head is not if the Sync behind it failed. Where nothing was saved, nothing can be lost.
	if s.saves > 0 && !d.Sync() {
		return nil, Saved{}, false
	}
	return s, s.load(), true
}

// load reads that to which the head leads.
func (s *Store) load() Saved {
	r := packed.Open(s.read(stateBlock(s.saves)))
	r.Numbers(&s.texts)
	saved := Saved{State: r.Rest()}
	for i := range min(s.texts, blocks-texts) {
		saved.Texts = append(saved.Texts, packed.Open(s.read(texts+i)).Text())
	}
	return saved
}

// Save makes a state safe, and texts that come behind those that are there. False: the disk failed; which of the two states is there, only Open can tell.
func (s *Store) Save(state string, added ...string) bool {
	next := Store{disk: s.disk, saves: s.saves + 1, texts: s.texts + len(added)}
	for i, t := range added {
		if !s.write(texts+s.texts+i, packed.Text(t)) {
			return false
		}
	}
	// The head is a single sector, which is written whole or not at all; all to which it leads must be safe ahead of it.
	done := s.write(stateBlock(next.saves), packed.Join(packed.Numbers(next.texts), state)) && s.disk.Sync() &&
		s.write(head, packed.Numbers(next.saves)) && s.disk.Sync()
	if done {
		*s = next
	}
	return done
}

// stateBlock tells where the state stands behind so many saves.
func stateBlock(saves int) int {
	return states + saves%2
}

// read tells all that stands in a block.
func (s *Store) read(block int) string {
	var parts []string
	for i := range room {
		parts = append(parts, s.disk.Read(block*room+i))
	}
	return packed.Join(parts...)
}

// write lets a block begin with these bytes. Where they stand already, as in most of a long state, no step is needed: the Sync behind makes them safe too.
func (s *Store) write(block int, data string) bool {
	for sector := block * room; data != ""; sector++ {
		n := min(len(data), disk.Size)
		if !strings.HasPrefix(s.disk.Read(sector), data[:n]) && !s.disk.Write(sector, data[:n]) {
			return false
		}
		data = data[n:]
	}
	return true
}
