package van

import "clinch/api"

// refusal is what a line that is refused panics with, so that it can leave from anywhere.
type refusal struct{ errno api.Errno }

// refuseIf leaves the line if something speaks against it.
func refuseIf(is bool, e api.Errno) {
	if is {
		panic(refusal{e})
	}
}

// must is the result of another layer's call; with an error it leaves the line.
func must[T any](result T, e api.Errno) T {
	refuseIf(e != api.OK, e)
	return result
}

// answer does what a line says, and returns its reply, or the error by which it is refused. The state is of no use then.
func (s *state) answer(c command) (reply string, e api.Errno) {
	defer func() {
		switch left := recover().(type) {
		case nil:
		case refusal:
			e = left.errno
		default:
			// No line is known to come here: if the program itself goes wrong, the line is given up.
			e = api.ErrState
		}
	}()
	return c.do(s, c.parts), api.OK
}
