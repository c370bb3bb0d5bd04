package flight

import (
	"cmp"
	"slices"

	"flume/api"
	"flume/serial"
)

// row of the abandoned fragments directly after the mark. It is known as far as it was gone through, so that Point,
// which is asked often, does not begin at the mark each time.
type row struct {
	length int
	latest map[line]uint32 // the latest Mid of each line in it
}

// line of messages: those of a stream that are ordered, or those that are not.
type line struct {
	stream uint16
	loose  bool
}

// extend the row over the fragments after it that are abandoned, too.
func (r *row) extend(parts []fragment) {
	for r.length < len(parts) && parts[r.length].state == abandoned {
		c := &parts[r.length].chunk
		l := line{stream: c.Stream, loose: c.Loose}
		latest, there := r.latest[l]
		if !there {
			latest = c.Mid
		}
		r.latest[l] = serial.Later(latest, c.Mid)
		r.length++
	}
}

// skips that tell of the row.
func (r *row) skips(inter bool) []api.Skip {
	var skips []api.Skip
	for l, mid := range r.latest {
		if inter || !l.loose {
			skips = append(skips, api.Skip{Stream: l.stream, Loose: l.loose, Mid: mid})
		}
	}
	slices.SortFunc(skips, func(a, b api.Skip) int {
		if a.Stream == b.Stream && a.Loose != b.Loose {
			if a.Loose {
				return 1
			}
			return -1
		}
		return cmp.Compare(a.Stream, b.Stream)
	})
	return skips
}

// clear the row: what is at the mark has changed.
func (r *row) clear() {
	r.length = 0
	clear(r.latest)
}
