package hoof

import "clinch/api"

// The places of the four lengths in walls.
const (
	toeWall = iota
	heelWall
	inWall
	outWall
)

// walls is the lengths of the four walls. They have 64 bits wherever the program runs, since products of lengths do not fit into 32.
type walls [4]int64

func wallsOf(h api.Hoof) walls {
	return walls{int64(h.Toe), int64(h.Heel), int64(h.In), int64(h.Out)}
}

func ratesOf(r api.Rates) walls {
	return walls{int64(r.Toe), int64(r.Heel), int64(r.In), int64(r.Out)}
}

func allOf(length int64) walls {
	return walls{length, length, length, length}
}

func (w walls) hoof() api.Hoof {
	return api.Hoof{Toe: int(w[toeWall]), Heel: int(w[heelWall]), In: int(w[inWall]), Out: int(w[outWall])}
}

// lesser takes the lesser length of each wall.
func (w walls) lesser(v walls) walls {
	for i, n := range v {
		w[i] = min(w[i], n)
	}
	return w
}

// greater takes the greater length of each wall.
func (w walls) greater(v walls) walls {
	for i, n := range v {
		w[i] = max(w[i], n)
	}
	return w
}

// plus adds v a number of times, which may be below 0.
func (w walls) plus(v walls, times int64) walls {
	for i, n := range v {
		w[i] += n * times
	}
	return w
}

// within says that no length is above that of v.
func (w walls) within(v walls) bool {
	return w.lesser(v) == w
}

// between says that all lengths are from lo to hi.
func (w walls) between(lo, hi int64) bool {
	return allOf(lo).within(w) && w.within(allOf(hi))
}

func (w walls) sum() int64 {
	sum := int64(0)
	for _, n := range w {
		sum += n
	}
	return sum
}
