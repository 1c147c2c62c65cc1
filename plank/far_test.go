package plank

import (
	"testing"

	"manciple/api"
)

// P7.3: from outside nobody can play so many operations as lie ahead of the
// farthest one, so they are counted here without being played.
func TestFarthestOperation(t *testing.T) {
	const last = 1 << 40
	for _, c := range []struct {
		at   int
		want api.Errno
	}{{last - 1, api.ErrIO}, {last, api.ErrIO}, {last + 1, api.OK}, {last + 2, api.OK}} {
		d := New(10)
		if e := d.Create("a"); e != api.OK {
			t.Fatal(e)
		}
		d.Arm(c.at, api.FaultIO, 0)
		d.ops += c.at - 2
		if e := d.Sync("a"); e != api.OK {
			t.Errorf("Arm(%d): the operation ahead of it answers %d", c.at, e)
		}
		if e := d.Sync("a"); e != c.want {
			t.Errorf("Arm(%d): it answers %d, not %d", c.at, e, c.want)
		}
		if e := d.Sync("a"); e != api.OK {
			t.Errorf("Arm(%d): the operation behind it answers %d", c.at, e)
		}
	}
}
