package parse

import (
	"jetsam/api"
	"jetsam/lex"
)

// reader goes through words, from the first one on, till one of them can't
// stand where it does.
type reader struct {
	words []lex.Token
	next  int
	end   int // the text's length
	at    int // the first fault's place
	err   api.Errno
}

// peek tells the next word; behind the last one, a word of no kind.
func (r *reader) peek() lex.Token {
	if r.next < len(r.words) {
		return r.words[r.next]
	}
	return lex.Token{At: r.end}
}

// fail keeps the first fault. No word is left behind it, so that all that is
// still to be read ends at once.
func (r *reader) fail(err api.Errno) {
	if r.err == api.OK {
		r.err, r.at = err, r.peek().At
	}
	r.next = len(r.words)
}

// accept goes by the next word, if it is that one.
func (r *reader) accept(text string) bool {
	if r.peek().Text != text {
		return false
	}
	r.next++
	return true
}

func (r *reader) expect(text string) {
	if !r.accept(text) {
		r.fail(api.ErrForm)
	}
}

// nest goes by a word that opens what may stand in so many others only.
func (r *reader) nest(text string, deep int) {
	if r.peek().Text == text && deep >= api.MaxDeep {
		r.fail(api.ErrDeep)
		return
	}
	r.expect(text)
}

func (r *reader) name() string {
	word := r.peek()
	if word.Kind != lex.Name {
		r.fail(api.ErrForm)
		return ""
	}
	r.next++
	return word.Text
}

func (r *reader) number() int {
	word := r.peek()
	if word.Kind != lex.Number {
		r.fail(api.ErrForm)
		return 0
	}
	r.next++
	return word.Num
}

// finish: no word may be left.
func (r *reader) finish() {
	if r.next < len(r.words) {
		r.fail(api.ErrForm)
	}
}
