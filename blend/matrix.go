package blend

import "slices"

// matrix is a tableau of the simplex method, in whole numbers: all numbers of the rows are divided by den, which is above 0.
//
// A column before the last one is a condition with its price. Each row but the last one gives, in its last column, the price of a column in basis; all others are 0. The last row has what amounts leave of each condition, below 0 for one that is broken, and at its end the value.
//
// Each number is a minor of the first matrix, in which at most 4 columns are not units: ones, and three of numbers up to MaxProp. So den and the conditions' numbers are below 2^14, the prices below 2^27 and the last row below 2^43: no product overflows, and what is read is within the limits of prices and amounts.
type matrix struct {
	rows  [][]int
	basis []int
	den   int
}

// raise changes the prices until their value is the greatest. If there is no greatest one, it returns false and a column whose price can rise without end.
//
// Both choices take the first of several columns (Bland's rule), so that no basis comes twice and the loop ends.
func (m *matrix) raise() (int, bool) {
	for {
		column := m.broken()
		if column < 0 {
			return 0, true
		}
		row := m.limiting(column)
		if row < 0 {
			return column, false
		}
		m.pivot(row, column)
	}
}

// broken returns the first condition that is broken, or -1.
func (m *matrix) broken() int {
	last := m.rows[len(m.basis)]
	return slices.IndexFunc(last[:len(last)-1], func(rest int) bool { return rest < 0 })
}

// limiting returns the row whose price is the first to fall to 0 while that of the column rises, or -1 if none falls.
func (m *matrix) limiting(column int) int {
candidates:
	for row := range m.basis {
		if m.rows[row][column] <= 0 {
			continue
		}
		for other := range m.basis {
			if m.rows[other][column] > 0 && m.isBefore(other, row, column) {
				continue candidates
			}
		}
		return row
	}
	return -1
}

// isBefore compares two rows whose prices fall while that of the column rises.
func (m *matrix) isBefore(a, b, column int) bool {
	left := m.amount(a) * m.rows[b][column]
	right := m.amount(b) * m.rows[a][column]
	return left < right || left == right && m.basis[a] < m.basis[b]
}

// pivot exchanges the price of the row for that of the column.
func (m *matrix) pivot(row, column int) {
	by := m.rows[row]
	for i, r := range m.rows {
		if i == row {
			continue
		}
		factor := r[column]
		for j := range r {
			// The division leaves no remainder, because the result is a minor, too.
			r[j] = (r[j]*by[column] - factor*by[j]) / m.den
		}
	}
	m.den = by[column]
	m.basis[row] = column
}

// amount returns den times the price that the row gives.
func (m *matrix) amount(row int) int {
	r := m.rows[row]
	return r[len(r)-1]
}

// price returns den times the price of a column.
func (m *matrix) price(column int) int {
	row := slices.Index(m.basis, column)
	if row < 0 {
		return 0
	}
	return m.amount(row)
}

// rest returns den times what the amounts leave of the condition of a column.
func (m *matrix) rest(column int) int {
	return m.rows[len(m.basis)][column]
}

// direction returns a function that gives den times the change of each price while that of the column rises by 1.
func (m *matrix) direction(column int) func(of int) int {
	return func(of int) int {
		row := slices.Index(m.basis, of)
		switch {
		case of == column:
			return m.den
		case row < 0:
			return 0
		}
		return -m.rows[row][column]
	}
}
