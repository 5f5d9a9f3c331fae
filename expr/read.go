package expr

import (
	"strconv"
	"strings"

	"gaugehouse/api"
	"gaugehouse/label"
)

// thrown is an error on its way up to Read, from wherever in a text it was seen.
type thrown struct{ e api.Errno }

// reader has what is left of a text. It takes from its front, and throws where nothing fits.
type reader struct{ rest string }

func throw(e api.Errno) { panic(thrown{e}) }

// errorOf a panic: as no call may panic, one that was not thrown is told as a text that cannot be read.
func errorOf(cause any) api.Errno {
	if t, ok := cause.(thrown); ok {
		return t.e
	}
	return api.ErrForm
}

func read(s string) api.Expr {
	if len(s) > api.MaxText {
		throw(api.ErrLarge)
	}
	r := &reader{rest: s}
	x := r.expression()
	if r.rest != "" || Check(x) != api.OK {
		throw(api.ErrForm)
	}
	return x
}

// expression leaves to Check what no text shows by its form.
func (r *reader) expression() api.Expr {
	if r.takes("(") {
		return r.pair()
	}
	if strings.HasPrefix(r.rest, "{") {
		return r.selection()
	}
	for kind := api.XSum; kind <= api.XCount; kind++ {
		if r.takes(word(kind)) {
			return r.group(kind)
		}
	}
	return api.Expr{Kind: api.XNum, N: r.number()}
}

// pair reads on behind its `(`.
func (r *reader) pair() api.Expr {
	first := r.expression()
	r.need(" ")
	kind := r.sign()
	r.need(" ")
	second := r.expression()
	r.need(")")
	return api.Expr{Kind: kind, X: []api.Expr{first, second}}
}

func (r *reader) sign() int {
	for kind := api.XAdd; kind < api.XMul; kind++ {
		if r.takes(word(kind)) {
			return kind
		}
	}
	r.need(word(api.XMul))
	return api.XMul
}

// group reads on behind its word.
func (r *reader) group(kind int) api.Expr {
	x := api.Expr{Kind: kind}
	if r.takes(" by ") {
		x.By = r.names()
	}
	r.need("(")
	x.X = []api.Expr{r.expression()}
	r.need(")")
	return x
}

// names share no memory with the text.
func (r *reader) names() []string {
	width := strings.IndexByte(r.rest, '(')
	if width < 0 {
		throw(api.ErrForm)
	}
	names := strings.Split(r.front(width), ",")
	for i, name := range names {
		names[i] = strings.Clone(name)
	}
	return names
}

func (r *reader) selection() api.Expr {
	m, e := label.ReadMatch(r.front(matchesWidth(r.rest)))
	if e != api.OK {
		throw(e)
	}
	r.need("[")
	width := r.number()
	r.need("]")
	return api.Expr{Kind: api.XSel, W: width, M: m}
}

// matchesWidth is how many bytes go up to the first `}` of s that stands in no value; all, if there is none.
func matchesWidth(s string) int {
	quoted := false
	for i := 0; i < len(s); i++ {
		switch {
		case quoted && s[i] == '\\':
			// the next byte is told by this one, and ends nothing
			i++
		case s[i] == '"':
			quoted = !quoted
		case s[i] == '}' && !quoted:
			return i + 1
		}
	}
	return len(s)
}

func (r *reader) number() int64 {
	width := 0
	for width < len(r.rest) && strings.IndexByte("-0123456789", r.rest[width]) >= 0 {
		width++
	}
	told := r.front(width)
	n, err := strconv.ParseInt(told, 10, 64)
	// each number has one text: none with a 0 ahead
	if err != nil || strconv.FormatInt(n, 10) != told {
		throw(api.ErrForm)
	}
	return n
}

func (r *reader) front(width int) string {
	s := r.rest[:width]
	r.rest = r.rest[width:]
	return s
}

func (r *reader) takes(s string) bool {
	rest, ok := strings.CutPrefix(r.rest, s)
	r.rest = rest
	return ok
}

func (r *reader) need(s string) {
	if !r.takes(s) {
		throw(api.ErrForm)
	}
}
