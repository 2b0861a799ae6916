package world

import (
	"math"
	"reflect"
	"strings"
	"testing"

	"ferry/api"
	"ferry/packed"
)

// whole is a world with a model, runs and a time.
func whole(t *testing.T) World {
	t.Helper()
	w, _, _ := World{}.Deploy(text)
	w, _, _ = w.Start(0, [8]int32{0, -1, math.MaxInt32, math.MinInt32, 127, 128, -128, 1 << 20})
	w, _ = w.Tick(1)
	w, _, e := w.Start(0, [8]int32{})
	if e != api.OK || w.Now() != 1 {
		t.Fatalf("there is no world: %d", e)
	}
	return w
}

// Of its texts and bytes a world comes back, whatever stands behind them.
func TestPack(t *testing.T) {
	var w World
	var texts []string
	for _, step := range []func(w World) World{
		func(w World) World { return w },
		func(w World) World { w, _ = w.Tick(1000); return w },
		func(w World) World { w, _, _ = w.Deploy(text); texts = append(texts, text); return w },
		func(w World) World {
			w, _, _ = w.Start(0, [8]int32{0, -1, math.MaxInt32, math.MinInt32, 127, 128, -128, 1 << 20})
			return w
		},
		func(w World) World { w, _, _ = w.Start(0, [8]int32{}); return w },
		func(w World) World { w, _ = w.Complete(0, 1, nil); return w },
		func(w World) World { w, _ = w.Tick(2); return w },
	} {
		w = step(w)
		for _, behind := range []string{"", "\x00", "\xff\x01", strings.Repeat("\x00", 999)} {
			got, ok := Unpack(texts, w.Pack()+behind)
			if !ok || !reflect.DeepEqual(told(got), told(w)) {
				t.Fatalf("%v, %v, want %v", told(got), ok, told(w))
			}
		}
	}
}

func TestUnpackNoughts(t *testing.T) {
	w, ok := Unpack(nil, "\x00\x00")
	if !ok || !reflect.DeepEqual(told(w), told(World{})) {
		t.Errorf("noughts are %v, %v", told(w), ok)
	}
}

// What is of no world is refused.
func TestUnpackRefused(t *testing.T) {
	one := []string{text}
	w := whole(t)
	good := w.Pack()
	if _, ok := Unpack(one, good); !ok {
		t.Fatalf("a world is refused")
	}
	for n := range len(good) {
		if _, ok := Unpack(one, good[:n]); ok {
			t.Errorf("%d bytes of %d are a world", n, len(good))
		}
	}
	many := packed.Numbers(7, 21)
	run := packState(w.runs[0])
	for range 21 {
		many = packed.Join(many, run)
	}
	for what, c := range map[string]struct {
		texts []string
		rest  string
	}{
		"a text that is none":  {[]string{text, "<"}, good},
		"no text":              {nil, good},
		"too many models":      {[]string{text, text, text, text, text}, good},
		"too many runs":        {one, many},
		"too late":             {one, packed.Numbers(api.MaxNow+1, 0)},
		"a run of no model":    {one, packed.Join(packed.Numbers(7, 1), packState(api.State{Model: 1, Next: 1}))},
		"a run without a NEXT": {one, packed.Join(packed.Numbers(7, 1), packState(api.State{}))},
	} {
		if _, ok := Unpack(c.texts, c.rest); ok {
			t.Errorf("%s is a world", what)
		}
	}
	for what, c := range map[string]struct {
		texts []string
		rest  string
	}{
		"four models": {[]string{text, text, text, text}, good},
		"twenty runs": {one, packed.Numbers(7, 20) + many[2:]},
		"the last":    {one, packed.Numbers(api.MaxNow, 0)},
	} {
		if _, ok := Unpack(c.texts, c.rest); !ok {
			t.Errorf("%s is no world", what)
		}
	}
}
