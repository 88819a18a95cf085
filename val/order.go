package val

import (
	"bytes"
	"cmp"
	"math"

	"muniment/api"
)

// Compare tells which of a and b comes first: -1, 0 or 1.
func Compare(a, b api.Val) (int, api.Errno) {
	if e := Good(a); e != api.OK {
		return 0, e
	}
	if e := Good(b); e != api.OK {
		return 0, e
	}
	return order(a, b), api.OK
}

// class tells the place of a kind's class among the classes.
func class(kind int) int {
	if kind == api.Float {
		return api.Int
	}
	return kind
}

// order compares two good values.
func order(a, b api.Val) int {
	if c := cmp.Compare(class(a.Kind), class(b.Kind)); c != 0 {
		return c
	}
	switch class(a.Kind) {
	case api.Bool:
		return cmp.Compare(a.N, b.N)
	case api.Int:
		return numbers(a, b)
	case api.Text, api.Bytes:
		return bytes.Compare(a.B, b.B)
	case api.List:
		return lists(a.L, b.L)
	case api.Doc:
		return docs(a.F, b.F)
	}
	return 0
}

func lists(a, b []api.Val) int {
	for i := range min(len(a), len(b)) {
		if c := order(a[i], b[i]); c != 0 {
			return c
		}
	}
	return cmp.Compare(len(a), len(b))
}

func docs(a, b []api.Field) int {
	for i := range min(len(a), len(b)) {
		if c := cmp.Compare(a[i].Name, b[i].Name); c != 0 {
			return c
		}
		if c := order(a[i].V, b[i].V); c != 0 {
			return c
		}
	}
	return cmp.Compare(len(a), len(b))
}

// rank tells a number's place among those of one exact value.
func rank(v api.Val) int {
	switch {
	case v.Kind == api.Int:
		return 1
	case v.N == 1<<63:
		return 0
	}
	return 2
}

// numbers compares two Ints or Floats.
func numbers(a, b api.Val) int {
	an, bn := notNumber(a), notNumber(b)
	switch {
	case an && bn:
		return cmp.Compare(a.N, b.N)
	case an:
		return -1
	case bn:
		return 1
	}
	if c := exact(a, b); c != 0 {
		return c
	}
	return cmp.Compare(rank(a), rank(b))
}

func notNumber(v api.Val) bool {
	return v.Kind == api.Float && v.N<<1 > 0x7FF<<53
}

// exact compares two numbers by their exact value.
func exact(a, b api.Val) int {
	switch {
	case a.Kind == api.Int && b.Kind == api.Int:
		return cmp.Compare(int64(a.N), int64(b.N))
	case a.Kind == api.Int:
		return intFloat(int64(a.N), math.Float64frombits(b.N))
	case b.Kind == api.Int:
		return -intFloat(int64(b.N), math.Float64frombits(a.N))
	}
	return cmp.Compare(math.Float64frombits(a.N), math.Float64frombits(b.N))
}

// intFloat compares an Int with a Float: the Float's whole part is exact as an Int where it is not beyond them all.
func intFloat(n int64, f float64) int {
	switch {
	case f >= 1<<63:
		return -1
	case f < -1<<63:
		return 1
	}
	whole := math.Floor(f)
	if c := cmp.Compare(n, int64(whole)); c != 0 {
		return c
	}
	return cmp.Compare(whole, f)
}
