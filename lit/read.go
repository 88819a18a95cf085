package lit

import (
	"muniment/api"
	"muniment/val"
)

// noForm is thrown by a reader where no value's text can go on.
type noForm struct{}

// reader reads a value's text from its place on.
type reader struct {
	s  string
	at int
}

func (r *reader) fail() { panic(noForm{}) }

// peek tells the next byte; 0, which stands in no text, at the end.
func (r *reader) peek() byte {
	if r.at < len(r.s) {
		return r.s[r.at]
	}
	return 0
}

// next takes the next byte.
func (r *reader) next() byte {
	if r.at >= len(r.s) {
		r.fail()
	}
	r.at++
	return r.s[r.at-1]
}

// want takes the bytes of word, which must stand there.
func (r *reader) want(word string) {
	for i := range len(word) {
		if r.next() != word[i] {
			r.fail()
		}
	}
}

// blanks passes over blanks.
func (r *reader) blanks() {
	for r.peek() == ' ' || r.peek() == '\t' {
		r.at++
	}
}

// value reads a value.
func (r *reader) value() api.Val {
	switch c := r.peek(); {
	case c == 'n':
		r.want("null")
		return api.Val{Kind: api.Null}
	case c == 't':
		r.want("true")
		return api.Val{Kind: api.Bool, N: 1}
	case c == 'f':
		return r.falseOrFloat()
	case c == '-' || c >= '0' && c <= '9':
		return r.integer()
	case c == '"':
		return api.Val{Kind: api.Text, B: r.text()}
	case c == 'x':
		return r.bytes()
	case c == '[':
		return r.list()
	case c == '{':
		return r.doc()
	}
	r.fail()
	return api.Val{}
}

func (r *reader) falseOrFloat() api.Val {
	r.want("f")
	v := api.Val{Kind: api.Float}
	// no digit of a float's bits can make "fal", as l is none
	if r.at+1 < len(r.s) && r.s[r.at+1] == 'l' {
		r.want("alse")
		return api.Val{Kind: api.Bool}
	}
	for range 16 {
		v.N = v.N<<4 | uint64(r.digit())
	}
	return v
}

// digit reads a digit by base 16.
func (r *reader) digit() byte {
	switch c := r.next(); {
	case c >= '0' && c <= '9':
		return c - '0'
	case c >= 'a' && c <= 'f':
		return c - 'a' + 10
	case c >= 'A' && c <= 'F':
		return c - 'A' + 10
	}
	r.fail()
	return 0
}

// integer reads an Int: all its digits, be they too many or not.
func (r *reader) integer() api.Val {
	most, minus := uint64(1<<63-1), r.peek() == '-'
	if minus {
		r.at++
		most++
	}
	var n uint64
	from, big := r.at, false
	for c := r.peek(); c >= '0' && c <= '9'; c = r.peek() {
		d := uint64(c - '0')
		big = big || n > (most-d)/10
		n = 10*n + d
		r.at++
	}
	if from == r.at || big {
		r.fail()
	}
	if minus {
		n = -n
	}
	return api.Val{Kind: api.Int, N: n}
}

// text reads a Text's bytes, quotes around them.
func (r *reader) text() []byte {
	var out []byte
	r.want(`"`)
	for {
		switch c := r.next(); {
		case c == '"':
			return out
		case c == '\\':
			out = append(out, r.escaped())
		case c < 32 || c == 127:
			r.fail()
		default:
			out = append(out, c)
		}
	}
}

// escaped reads what stands behind a backslash.
func (r *reader) escaped() byte {
	switch c := r.next(); c {
	case '"', '\\':
		return c
	case 'n':
		return '\n'
	case 't':
		return '\t'
	case 'x':
		high := r.digit()
		return high<<4 | r.digit()
	}
	r.fail()
	return 0
}

func (r *reader) bytes() api.Val {
	v := api.Val{Kind: api.Bytes}
	r.want(`x"`)
	for r.peek() != '"' {
		high := r.digit()
		v.B = append(v.B, high<<4|r.digit())
	}
	r.at++
	return v
}

// row reads what stands between open and end, one item after the other, with commas between.
func (r *reader) row(open, end string, item func()) {
	r.want(open)
	r.blanks()
	for first := true; r.peek() != end[0]; first = false {
		if !first {
			r.want(",")
			r.blanks()
		}
		item()
		r.blanks()
	}
	r.at++
}

func (r *reader) list() api.Val {
	v := api.Val{Kind: api.List}
	r.row("[", "]", func() { v.L = append(v.L, r.value()) })
	return v
}

func (r *reader) doc() api.Val {
	v := api.Val{Kind: api.Doc}
	r.row("{", "}", func() {
		name := string(r.text())
		r.blanks()
		r.want(":")
		r.blanks()
		v.F = append(v.F, api.Field{Name: name, V: r.value()})
	})
	return v
}

// read reads one value, blanks ahead of it.
func (r *reader) read() (v api.Val, e api.Errno) {
	defer func() {
		if recover() != nil {
			v, e = api.Val{}, api.ErrForm
		}
	}()
	r.blanks()
	return r.value(), api.OK
}

// judged tells v, or why it is not good.
func judged(v api.Val) (api.Val, api.Errno) {
	if e := val.Good(v); e != api.OK {
		return api.Val{}, e
	}
	return v, api.OK
}

// Parse tells the value whose text s is.
func Parse(s string) (api.Val, api.Errno) {
	if len(s) > api.MaxText {
		return api.Val{}, api.ErrBig
	}
	r := &reader{s: s}
	v, e := r.read()
	if e != api.OK {
		return api.Val{}, e
	}
	if r.blanks(); r.at != len(s) {
		return api.Val{}, api.ErrForm
	}
	return judged(v)
}

// Take tells the value whose text stands in s from at on, and the place behind it.
func Take(s string, at int) (v api.Val, next int, e api.Errno) {
	switch {
	case len(s) > api.MaxText:
		return api.Val{}, 0, api.ErrBig
	case at < 0 || at > len(s):
		return api.Val{}, 0, api.ErrArg
	}
	r := &reader{s: s, at: at}
	if v, e = r.read(); e == api.OK {
		v, e = judged(v)
	}
	if e != api.OK {
		return api.Val{}, 0, e
	}
	return v, r.at, api.OK
}
