package token

import "cubbyhole/quote"

// reader reads the tokens of b. It has read those before the offset at.
type reader struct {
	b  []byte
	at int
}

// readers returns, for each kind, what passes over a token of it that begins at the offset, and returns its text.
func (r *reader) readers() map[int]func() (string, bool) {
	return map[int]func() (string, bool){
		Space:   r.mark,
		Open:    r.mark,
		Close:   r.mark,
		Word:    r.word,
		Quoted:  r.quoted,
		Literal: r.literal,
	}
}

// mark passes over a token of one byte, which has no text.
func (r *reader) mark() (string, bool) {
	r.at++
	return "", true
}

// word passes over as many word bytes as there are.
func (r *reader) word() (string, bool) {
	from := r.at
	for r.at < len(r.b) && kindOf(r.b[r.at]) == Word {
		r.at++
	}
	return string(r.b[from:r.at]), true
}

// quoted passes over a quoted form, if there is one.
func (r *reader) quoted() (string, bool) { return r.scan(quote.ScanQuoted) }

// literal passes over a literal form, if there is one.
func (r *reader) literal() (string, bool) { return r.scan(quote.ScanLiteral) }

// scan passes over what a function of layer 4 finds.
func (r *reader) scan(find func(b []byte, at int) ([]byte, int, bool)) (string, bool) {
	text, after, ok := find(r.b, r.at)
	if !ok {
		return "", false
	}
	r.at = after
	return string(text), true
}

// kindOf returns the kind of the tokens that a byte may begin, or End if there is none.
func kindOf(c byte) int {
	switch c {
	case ' ':
		return Space
	case '(':
		return Open
	case ')':
		return Close
	case '"':
		return Quoted
	case '{':
		return Literal
	}
	if '!' <= c && c <= '~' {
		return Word
	}
	return End
}
