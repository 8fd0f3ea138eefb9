package flat

import (
	"testing"

	"pavior/api"
)

// P10.2: words of pages that have no area any more are gone. No call could tell them, were they kept, so what is kept is
// looked at.
func TestNothingIsKept(t *testing.T) {
	f := New()
	kept := func(want int) {
		t.Helper()
		if n := len(f.spaces[1].words); n != want {
			t.Fatalf("words of %d pages are kept, want %d", n, want)
		}
	}
	done := func(err error) {
		t.Helper()
		if err != nil {
			t.Fatal(err)
		}
	}
	done(f.Make(1))
	done(f.Map(1, 10, 20, api.Rights{Write: true}))
	kept(0)
	for p := 10; p < 20; p++ {
		done(f.Store(1, p, 0, 1))
	}
	kept(10)
	done(f.Unmap(1, 0, 11))
	kept(9)
	done(f.Unmap(1, 15, 16))
	kept(8)
	done(f.Map(1, 15, 18, api.Rights{}))
	kept(6)
	done(f.Unmap(1, 0, 4096))
	kept(0)
	done(f.End(1))
	if len(f.spaces) != 0 {
		t.Error("a space that has ended is kept")
	}
}
