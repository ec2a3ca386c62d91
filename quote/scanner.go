package quote

import (
	"cubbyhole/api"
	"cubbyhole/char"
)

// cursor is a place in some bytes. It may lie outside of them: then no byte follows it.
type cursor struct {
	b  []byte
	at int
}

// rest returns the bytes that follow.
func (c *cursor) rest() []byte {
	if c.at < 0 || c.at > len(c.b) {
		return nil
	}
	return c.b[c.at:]
}

// take passes over the next n bytes, if there are as many, and returns them.
func (c *cursor) take(n int) ([]byte, bool) {
	rest := c.rest()
	if n > len(rest) {
		return nil, false
	}
	c.at += n
	return rest[:n], true
}

// pass passes over the next byte, if it is a certain one.
func (c *cursor) pass(want byte) bool {
	rest := c.rest()
	if len(rest) == 0 || rest[0] != want {
		return false
	}
	c.at++
	return true
}

// digits passes over the digits that follow, and returns them.
func (c *cursor) digits() string {
	rest, n := c.rest(), 0
	for n < len(rest) && '0' <= rest[n] && rest[n] <= '9' {
		n++
	}
	c.at += n
	return string(rest[:n])
}

// scanner reads the forms that begin at its cursor. Where it finds none, its cursor is of no more use.
type scanner struct {
	cursor
}

// quoted passes over a quoted form, and returns what is between its quotation marks.
func (s *scanner) quoted() ([]byte, bool) {
	if !s.pass(mark) {
		return nil, false
	}
	from := s.at
	for !s.pass(mark) {
		if !s.character() {
			return nil, false
		}
	}
	return s.b[from : s.at-1], true
}

// character passes over a byte between quotation marks, and over the backslash in front of it.
func (s *scanner) character() bool {
	escaped := s.pass(backslash)
	c, ok := s.take(1)
	return ok && char.Text(c[0]) && (!escaped || special(c[0]))
}

// literal passes over a literal form, and returns its bytes.
func (s *scanner) literal() ([]byte, bool) {
	n, ok := s.announcement()
	if !ok || n > api.MaxLiteral || !s.pass('\r') || !s.pass('\n') {
		return nil, false
	}
	return s.take(int(n))
}

// announcement passes over the beginning of a literal form, up to its closing bracket, and returns the number in it.
func (s *scanner) announcement() (uint32, bool) {
	if !s.pass('{') {
		return 0, false
	}
	n, ok := char.Number(s.digits())
	return n, ok && s.pass('}')
}
