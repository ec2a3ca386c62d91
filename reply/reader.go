package reply

import (
	"bytes"

	"cubbyhole/api"
	"cubbyhole/char"
	"cubbyhole/flag"
	"cubbyhole/quote"
)

// reader reads a response.
type reader struct {
	rest  func(n int) []byte // passes over n bytes, and returns those that follow
	r     api.Response       // what has been read of the response
	whole bool               // whether this is all of it
}

// newReader returns a reader of the response with which some bytes begin.
func newReader(b []byte) *reader {
	return &reader{rest: func(n int) []byte {
		b = b[n:]
		return b
	}}
}

// step reads a part of a response, and returns what reads the next part. It returns nil after the last part, or if its own part is not there.
type step func() step

// begin is the first step.
func (p *reader) begin() step {
	return p.choose(
		choice{"* ", 0, p.untagged},
		choice{"+ ", api.Continue, p.text},
		choice{"", api.Tagged, p.tag},
	)
}

// untagged reads what follows the star.
func (p *reader) untagged() step {
	return p.choose(
		choice{"OK ", api.Info, p.text},
		choice{"BYE ", api.Bye, p.text},
		choice{"BAD ", api.BadLine, p.text},
		choice{"FLAGS " + flag.List(api.AllFlags), api.FlagList, p.end},
		choice{"", 0, p.number},
	)
}

// number reads a number after the star, and what it stands for.
func (p *reader) number() step {
	if !p.decimal(&p.r.N) {
		return nil
	}
	return p.choose(
		choice{" EXISTS", api.Exists, p.end},
		choice{" RECENT", api.Recent, p.end},
		choice{" EXPUNGE", api.Expunged, p.end},
		choice{" FETCH (", api.Fetched, p.items},
	)
}

// items reads the items of a message, and the bracket after them.
func (p *reader) items() step {
	for _, x := range [...]struct {
		item int
		name string
		read func() bool
	}{
		{api.ItemFlags, "FLAGS ", p.flags},
		{api.ItemUID, "UID ", p.uid},
		{api.ItemSize, "RFC822.SIZE ", p.size},
		{api.ItemBody, "BODY[] ", p.body},
	} {
		if p.r.Items != 0 {
			x.name = " " + x.name
		}
		if !p.pass(x.name) {
			continue
		}
		if !x.read() {
			return nil
		}
		p.r.Items |= x.item
	}
	if p.r.Items == 0 || !p.pass(")") {
		return nil
	}
	return p.end
}

// flags reads a list of flags.
func (p *reader) flags() bool {
	list := p.span(func(c byte) bool { return c != ')' }) + ")"
	f, ok := flag.Parse(list)
	p.r.Flags = f
	// Parse also accepts lists that are not written like this in a response.
	return ok && flag.List(f) == list && p.pass(")")
}

func (p *reader) uid() bool { return p.decimal(&p.r.UID) }

func (p *reader) size() bool { return p.decimal(&p.r.Size) }

func (p *reader) body() bool {
	body, after, ok := quote.ScanLiteral(p.rest(0), 0)
	p.rest(after)
	p.r.Body = body
	return ok
}

// tag reads the tag of a response and its status.
func (p *reader) tag() step {
	p.r.Tag = p.span(char.Tag)
	if p.r.Tag == "" {
		return nil
	}
	for status, word := range [...]string{api.StatusOK: " OK ", api.StatusNO: " NO ", api.StatusBAD: " BAD "} {
		if p.pass(word) {
			p.r.Status = status
			return p.text
		}
	}
	return nil
}

// text reads the text of a response.
func (p *reader) text() step {
	p.r.Text = p.span(char.Text)
	if p.r.Text == "" {
		return nil
	}
	return p.end
}

// end is the last step.
func (p *reader) end() step {
	p.whole = p.pass("\r\n")
	return nil
}

// choice is a word with which the rest of a response may begin, the kind of the response, as far as the word tells it, and what reads the bytes after the word.
type choice struct {
	word string
	kind int
	next step
}

// choose passes over the first word of some that is there.
func (p *reader) choose(l ...choice) step {
	for _, c := range l {
		if p.pass(c.word) {
			p.r.Kind = c.kind
			return c.next
		}
	}
	return nil
}

// pass passes over a word, if it is there.
func (p *reader) pass(word string) bool {
	if !bytes.HasPrefix(p.rest(0), []byte(word)) {
		return false
	}
	p.rest(len(word))
	return true
}

// span passes over as many bytes of a class as there are, and returns them.
func (p *reader) span(has func(c byte) bool) string {
	b := p.rest(0)
	n := 0
	for n < len(b) && has(b[n]) {
		n++
	}
	p.rest(n)
	return string(b[:n])
}

// decimal passes over a number in decimal form, and stores it.
func (p *reader) decimal(n *uint32) bool {
	var ok bool
	*n, ok = char.Number(p.span(func(c byte) bool { return '0' <= c && c <= '9' }))
	return ok
}
