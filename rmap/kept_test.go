package rmap

import (
	"testing"

	"pavior/api"
)

// P11.1, P11.3: what has no frame any more is gone. No call could tell a space's empty list, were it kept, so what is kept is
// looked at.
func TestNothingIsKept(t *testing.T) {
	m := New()
	done := func(err error) {
		t.Helper()
		if err != nil {
			t.Fatal(err)
		}
	}
	kept := func(spaces, frames int) {
		t.Helper()
		if len(m.frames) != spaces || len(m.pages) != frames {
			t.Fatalf("%d spaces and %d frames are kept, want %d and %d", len(m.frames), len(m.pages), spaces, frames)
		}
	}
	kept(0, 0)
	for page := range 3 {
		done(m.Add(page%2, api.Where{Space: 1, Page: page}))
	}
	done(m.Add(0, api.Where{Space: 2, Page: 0}))
	kept(2, 2)
	done(m.Move(0, 5))
	done(m.Move(6, 7))
	kept(2, 2)
	for page := range 3 {
		_, err := m.Remove(api.Where{Space: 1, Page: page})
		done(err)
	}
	kept(1, 1)
	_, err := m.Remove(api.Where{Space: 2, Page: 0})
	done(err)
	kept(0, 0)
}
