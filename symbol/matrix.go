package symbol

import (
	"cmp"

	"downtilt/api"
)

// maxDeterminant is how many rows a matrix with a determinant has at most.
const maxDeterminant = 2

// CheckMatrix returns the first error of a matrix.
func CheckMatrix(m [][]api.Gauss) api.Errno {
	switch {
	case len(m) == 0:
		return api.ErrShape
	case len(m) > api.MaxSymbolLayers:
		return api.ErrLarge
	}
	for _, row := range m {
		if e := rowError(row, len(m[0])); e != api.OK {
			return e
		}
	}
	return api.OK
}

// rowError is the first error of a row of a matrix with so many columns.
func rowError(row []api.Gauss, columns int) api.Errno {
	switch {
	case len(row) == 0 || len(row) != columns:
		return api.ErrShape
	case len(row) > api.MaxSymbolLayers:
		return api.ErrLarge
	case !areWithin(row, api.MaxSymbolEntry):
		return api.ErrRange
	}
	return api.OK
}

// Applied returns the ports of layers.
func Applied(m, layers [][]api.Gauss) ([][]api.Gauss, api.Errno) {
	if e := cmp.Or(CheckMatrix(m), layersError(layers)); e != api.OK {
		return nil, e
	}
	return limitedProduct(m, layers, api.MaxSymbolPart)
}

// Product returns the matrix that is applied like b, and then a.
func Product(a, b [][]api.Gauss) ([][]api.Gauss, api.Errno) {
	if e := cmp.Or(CheckMatrix(a), CheckMatrix(b)); e != api.OK {
		return nil, e
	}
	return limitedProduct(a, b, api.MaxSymbolEntry)
}

// Determinant returns the determinant of a matrix.
func Determinant(m [][]api.Gauss) (api.Gauss, api.Errno) {
	if e := CheckMatrix(m); e != api.OK {
		return api.Gauss{}, e
	}
	switch {
	case len(m) != len(m[0]):
		return api.Gauss{}, api.ErrClash
	case len(m) > maxDeterminant:
		return api.Gauss{}, api.ErrLarge
	}
	return determinant(m), api.OK
}

// Equalized returns what is equalized, and the gain.
func Equalized(m, received [][]api.Gauss) ([][]api.Gauss, int, api.Errno) {
	d, e := Determinant(m)
	if e = cmp.Or(e, layersError(received)); e != api.OK {
		return nil, 0, e
	}
	gain := d.Re*d.Re + d.Im*d.Im
	switch {
	case len(received) != len(m):
		return nil, 0, api.ErrClash
	case gain == 0:
		return nil, 0, api.ErrSingular
	case gain > api.MaxSymbolGain:
		return nil, 0, api.ErrLarge
	}
	l, e := limitedProduct(equalizer(m, d), received, api.MaxSymbolPart)
	if e != api.OK {
		return nil, 0, e
	}
	return l, gain, api.OK
}

// limitedProduct is the product, if there is one, and no part of it is greater in size than most.
func limitedProduct(a, b [][]api.Gauss, most int) ([][]api.Gauss, api.Errno) {
	if len(a[0]) != len(b) {
		return nil, api.ErrClash
	}
	l := product(a, b)
	for _, row := range l {
		if !areWithin(row, most) {
			return nil, api.ErrLarge
		}
	}
	return l, api.OK
}

// product is exact: no number on the way is greater than 2^53. The largest ones are those of an equalizer, whose entries are below 5 * 10^6 where the gain is not too large, applied to parts of 10^8.
func product(a, b [][]api.Gauss) [][]api.Gauss {
	l := make([][]api.Gauss, len(a))
	for r, row := range a {
		for column := range b[0] {
			var sum complex128
			for k, entry := range row {
				sum += asComplex(entry) * asComplex(b[k][column])
			}
			l[r] = append(l[r], asGauss(sum))
		}
	}
	return l
}

// determinant is for one or two rows.
func determinant(m [][]api.Gauss) api.Gauss {
	if len(m) == 1 {
		return m[0][0]
	}
	return asGauss(asComplex(m[0][0])*asComplex(m[1][1]) - asComplex(m[0][1])*asComplex(m[1][0]))
}

// equalizer is the conjugate of the determinant d times the adjugate matrix.
func equalizer(m [][]api.Gauss, d api.Gauss) [][]api.Gauss {
	conjugate := asComplex(api.Gauss{Re: d.Re, Im: -d.Im})
	l := adjugate(m)
	for _, row := range l {
		for k, entry := range row {
			row[k] = asGauss(conjugate * asComplex(entry))
		}
	}
	return l
}

// adjugate is for one or two rows.
func adjugate(m [][]api.Gauss) [][]api.Gauss {
	if len(m) == 1 {
		return [][]api.Gauss{{{Re: 1}}}
	}
	return [][]api.Gauss{
		{m[1][1], opposite(m[0][1])},
		{opposite(m[1][0]), m[0][0]},
	}
}

func opposite(g api.Gauss) api.Gauss {
	return api.Gauss{Re: -g.Re, Im: -g.Im}
}

func asComplex(g api.Gauss) complex128 {
	return complex(float64(g.Re), float64(g.Im))
}

// asGauss is for numbers whose parts are whole.
func asGauss(z complex128) api.Gauss {
	return api.Gauss{Re: int(real(z)), Im: int(imag(z))}
}
