package plumb

import "plumb/api"

// checkList asks for the number of points first, as P3 names ErrMany first.
func checkList(points []api.Point) api.Errno {
	if len(points) > api.MaxPoints {
		return api.ErrMany
	}
	return checkPoints(points...)
}

func checkPoints(points ...api.Point) api.Errno {
	for _, p := range points {
		if !isCoord(p.X) || !isCoord(p.Y) {
			return api.ErrCoord
		}
	}
	return api.OK
}

// isCoord compares rather than taking the amount, which the least int has none of.
func isCoord(n int) bool {
	return -api.MaxCoord <= n && n <= api.MaxCoord
}
