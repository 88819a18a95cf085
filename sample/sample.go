// Package sample makes values out of a seed, for tests: the same seed, the same values.
package sample

import (
	"math"
	"strconv"

	"muniment/api"
)

// Source tells numbers that look mixed, one after the other.
type Source struct{ state uint64 }

// New makes a source that hangs on the seed alone.
func New(seed uint64) *Source { return &Source{state: seed*2862933555777941757 + 3037000493} }

// Next tells the next number.
func (s *Source) Next() uint64 {
	s.state += 0x9E3779B97F4A7C15
	z := s.state
	z = (z ^ z>>30) * 0xBF58476D1CE4E5B9
	z = (z ^ z>>27) * 0x94D049BB133111EB
	return z ^ z>>31
}

// Below tells a number from 0 to n - 1.
func (s *Source) Below(n int) int { return int(s.Next() % uint64(n)) }

// Bytes tells n bytes.
func (s *Source) Bytes(n int) []byte {
	b := make([]byte, n)
	for i := range b {
		b[i] = byte(s.Next() >> 32)
	}
	return b
}

// Value tells a good value with at most depth Lists and Docs within one another.
func (s *Source) Value(depth int) api.Val {
	kinds := api.Bytes
	if depth > 0 {
		kinds = api.Doc
	}
	switch v := (api.Val{Kind: 1 + s.Below(kinds)}); v.Kind {
	case api.Bool:
		v.N = s.Next() & 1
		return v
	case api.Int:
		v.N = s.number()
		return v
	case api.Float:
		v.N = s.float()
		return v
	case api.Text:
		v.B = s.text()
		return v
	case api.Bytes:
		for range s.Below(5) {
			v.B = append(v.B, byte(255*s.Below(2)))
		}
		return v
	case api.List:
		for range s.Below(4) {
			v.L = append(v.L, s.Value(depth-1))
		}
		return v
	case api.Doc:
		for i := range s.Below(4) {
			v.F = append(v.F, api.Field{Name: string(rune('a'+s.Below(3))) + strconv.Itoa(i), V: s.Value(depth - 1)})
		}
		return v
	default:
		return v
	}
}

// number tells an Int: small ones, and such as lie at the edges of what floats tell exactly.
func (s *Source) number() uint64 {
	n := uint64(s.Below(5)) - 2
	switch s.Below(5) {
	case 0:
		n += 1 << 53
	case 1:
		n -= 1 << 53
	case 2:
		n += 1 << 63
	case 3:
		n += s.Next() << s.Below(60)
	}
	return n
}

// float tells a Float: near Ints, infinite, no number at all.
func (s *Source) float() uint64 {
	switch s.Below(6) {
	case 0:
		return math.Float64bits(math.Inf(1 - 2*s.Below(2)))
	case 1:
		return 0x7FF0000000000000 + uint64(s.Below(3)) + uint64(s.Below(2))<<63
	case 2:
		return uint64(s.Below(2)) << 63
	case 3:
		return math.Float64bits(float64(int64(s.number()))) + uint64(s.Below(3)) - 1
	case 4:
		return math.Float64bits(float64(s.Below(9))/2 - 2)
	}
	return s.Next()
}

func (s *Source) text() []byte {
	var b []byte
	for range s.Below(5) {
		b = append(b, string([]rune{0, 'a', 'b', '"', '\n', 233, 0x10FFFF}[s.Below(7)])...)
	}
	return b
}
