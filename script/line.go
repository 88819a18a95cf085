package script

import (
	"iter"
	"strings"

	"muniment/api"
	"muniment/desk"
	"muniment/lit"
	"muniment/plain"
)

const (
	blanks     = " \t\r"
	mostDigits = 9
	documents  = "-" // the word for the documents, in place of an index
)

// lines tells the lines of a text, blanks at their ends passed over.
func lines(text string) iter.Seq[string] {
	return func(yield func(string) bool) {
		for text != "" {
			line, rest, _ := strings.Cut(text, "\n")
			if !yield(strings.Trim(line, blanks)) {
				return
			}
			text = rest
		}
	}
}

// reader reads the words of a line; once one is missing, or is none of its kind, it has failed.
type reader struct {
	rest   string
	failed bool
}

// word takes the next word.
func (r *reader) word() string {
	end := strings.IndexAny(r.rest, blanks)
	if end < 0 {
		end = len(r.rest)
	}
	out := r.rest[:end]
	r.rest = strings.TrimLeft(r.rest[end:], blanks)
	r.failed = r.failed || out == ""
	return out
}

// number takes a word of digits.
func (r *reader) number() int {
	s := r.word()
	n := 0
	for i := range len(s) {
		if s[i] < '0' || s[i] > '9' || len(s) > mostDigits {
			r.failed = true
			return 0
		}
		n = 10*n + int(s[i]-'0')
	}
	return n
}

// session takes the number of a session.
func (r *reader) session() int {
	s := r.number()
	r.failed = r.failed || s < 1 || s > sessions
	return s
}

// value takes all that is left as a value.
func (r *reader) value() api.Val {
	v, e := lit.Parse(r.rest)
	r.rest, r.failed = "", r.failed || e != api.OK
	return v
}

// firstValue takes a value that another one stands behind.
func (r *reader) firstValue() api.Val {
	v, next, e := lit.Take(r.rest, 0)
	r.rest, r.failed = r.rest[next:], r.failed || e != api.OK
	return v
}

// index takes an index, or the word for the documents.
func (r *reader) index() string {
	s := r.word()
	if s == documents {
		return ""
	}
	return s
}

// bytes takes a word of bytes by base 16.
func (r *reader) bytes() []byte {
	s := r.word()
	r.failed = r.failed || len(s)%2 != 0
	out := make([]byte, len(s)/2)
	for i := range out {
		out[i] = r.digit(s[2*i])<<4 | r.digit(s[2*i+1])
	}
	return out
}

// digit tells a digit by base 16.
func (r *reader) digit(c byte) byte {
	switch {
	case c >= '0' && c <= '9':
		return c - '0'
	case c >= 'a' && c <= 'f':
		return c - 'a' + 10
	case c >= 'A' && c <= 'F':
		return c - 'A' + 10
	}
	r.failed = true
	return 0
}

// verb is a word that stands for a request, and what reads the words behind it.
type verb struct {
	do   int
	form func(*reader, *api.Request)
}

// verbs tells the requests' words.
func verbs() map[string]verb {
	return map[string]verb{
		"begin":   {desk.Begin, (*reader).none},
		"commit":  {desk.Commit, (*reader).none},
		"abort":   {desk.Abort, (*reader).none},
		"mark":    {desk.Mark, (*reader).mark},
		"back":    {desk.Back, (*reader).mark},
		"make":    {plain.Make, (*reader).coll},
		"drop":    {plain.Drop, (*reader).coll},
		"count":   {plain.Count, (*reader).coll},
		"unindex": {plain.Unindex, (*reader).indexOf},
		"index":   {plain.Index, (*reader).path},
		"unique":  {plain.Index, (*reader).unique},
		"put":     {plain.Put, (*reader).doc},
		"add":     {plain.Add, (*reader).doc},
		"take":    {plain.Take, (*reader).key},
		"get":     {plain.Get, (*reader).key},
		"find":    {plain.Find, (*reader).find},
		"open":    {desk.Open, (*reader).open},
		"next":    {desk.Next, (*reader).next},
		"close":   {desk.Close, (*reader).cursor},
	}
}

// request reads a request behind the session's number; false, if the line has no such form.
func (r *reader) request() (api.Request, bool) {
	v, ok := verbs()[r.word()]
	if !ok {
		return api.Request{}, false
	}
	q := api.Request{Do: v.do}
	v.form(r, &q)
	return q, r.ended()
}

// ended tells whether all was read, and as it was to be.
func (r *reader) ended() bool { return !r.failed && r.rest == "" }

func (r *reader) none(*api.Request) {}

func (r *reader) mark(q *api.Request) { q.N = r.number() }

func (r *reader) coll(q *api.Request) { q.Coll = r.word() }

func (r *reader) indexOf(q *api.Request) { q.Coll, q.Index = r.word(), r.word() }

func (r *reader) path(q *api.Request) {
	r.indexOf(q)
	q.Path = r.word()
}

func (r *reader) unique(q *api.Request) {
	r.path(q)
	q.Unique = true
}

func (r *reader) doc(q *api.Request) { q.Coll, q.Doc = r.word(), r.value() }

func (r *reader) key(q *api.Request) { q.Coll, q.Key = r.word(), r.value() }

// find reads a range: of all documents, where one word stands behind the collection; with bounds, where more than two do.
func (r *reader) find(q *api.Request) {
	q.Coll = r.word()
	if !strings.ContainsAny(r.rest, blanks) {
		q.N = r.number()
		return
	}
	q.Index, q.N = r.index(), r.number()
	if r.rest != "" {
		q.Low, q.High = r.firstValue(), r.value()
	}
}

func (r *reader) open(q *api.Request) { q.Coll, q.Index, q.N = r.word(), r.index(), r.number() }

func (r *reader) cursor(q *api.Request) { q.Key = api.Val{Kind: api.Int, N: uint64(r.number())} }

func (r *reader) next(q *api.Request) {
	r.cursor(q)
	q.N = r.number()
}
