package merge

import "slices"

// sorted tells whether each element comes after the one ahead of it, so that no two are alike.
func sorted[E any](row []E, less func(a, b E) bool) bool {
	for i := 1; i < len(row); i++ {
		if !less(row[i-1], row[i]) {
			return false
		}
	}
	return true
}

// merged is one sorted row of some; of elements that are alike it has only that of the first row.
//
// Rows are halved, not taken one by one, since there may be many short ones.
func merged[E any](rows [][]E, less func(a, b E) bool) []E {
	switch n := len(rows); n {
	case 0:
		return nil
	case 1:
		return slices.Clone(rows[0])
	default:
		return both(merged(rows[:n/2], less), merged(rows[n/2:], less), less)
	}
}

// both is one sorted row of two.
func both[E any](a, b []E, less func(a, b E) bool) []E {
	row := make([]E, 0, len(a)+len(b))
	for len(a) > 0 && len(b) > 0 {
		switch {
		case less(a[0], b[0]):
			row, a = append(row, a[0]), a[1:]
		case less(b[0], a[0]):
			row, b = append(row, b[0]), b[1:]
		default:
			b = b[1:]
		}
	}
	return append(append(row, a...), b...)
}
