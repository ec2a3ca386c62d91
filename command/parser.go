package command

import (
	"strings"

	"cubbyhole/api"
	"cubbyhole/char"
	"cubbyhole/flag"
	"cubbyhole/seqset"
	"cubbyhole/token"
)

// parser reads the tokens of a command into its fields. Its methods panic at a token that does not follow the syntax, so that none of them has an error to pass on.
type parser struct {
	left []token.Token // those that are not taken yet
	c    api.Command
}

// need panics if the syntax is not followed.
func need(ok bool) {
	if !ok {
		panic(api.ErrSyntax)
	}
}

// rules returns, for each verb, what takes the tokens between it and End.
func rules() map[string]func(*parser) {
	return map[string]func(*parser){
		Verb(api.Noop):    (*parser).noRest,
		Verb(api.Logout):  (*parser).noRest,
		Verb(api.Close):   (*parser).noRest,
		Verb(api.Expunge): (*parser).noRest,
		Verb(api.Select):  (*parser).selectRest,
		Verb(api.Append):  (*parser).appendRest,
		Verb(api.Fetch):   (*parser).fetchRest,
		Verb(api.Store):   (*parser).storeRest,
	}
}

// parse returns the command with a tag and the bytes after it and its space.
func parse(tag string, b []byte) api.Command {
	l, bad := token.Tokens(b)
	need(bad < 0)
	p := &parser{left: l, c: api.Command{Tag: tag}}
	verb := char.Upper(p.take(token.Word))
	rest, ok := rules()[verb]
	need(ok)
	p.c.Kind, _ = Kind(verb)
	rest(p)
	p.take(token.End)
	return p.c
}

func (p *parser) noRest() {}

func (p *parser) selectRest() {
	p.take(token.Space)
	p.mailbox()
}

func (p *parser) appendRest() {
	p.take(token.Space)
	p.mailbox()
	p.take(token.Space)
	if p.sees(token.Open) {
		p.flags(p.list())
		p.take(token.Space)
	}
	p.c.Data = []byte(p.take(token.Literal))
}

func (p *parser) fetchRest() {
	p.take(token.Space)
	p.set()
	p.take(token.Space)
	if p.sees(token.Open) {
		p.items(p.list())
	} else {
		p.items([]string{p.take(token.Word)})
	}
}

func (p *parser) storeRest() {
	p.take(token.Space)
	p.set()
	p.take(token.Space)
	p.mode()
	p.take(token.Space)
	if p.sees(token.Open) {
		p.flags(p.list())
	} else {
		p.flags(p.words())
	}
}

// sees reports whether the next token has a kind.
func (p *parser) sees(kind int) bool { return p.left[0].Kind == kind }

// take passes over the next token, which must have a kind, and returns its text. Nothing follows End, so it is the last one that is taken.
func (p *parser) take(kind int) string {
	need(p.sees(kind))
	text := p.left[0].Text
	p.left = p.left[1:]
	return text
}

// words takes one or more words with one space between each two.
func (p *parser) words() []string {
	l := []string{p.take(token.Word)}
	for p.sees(token.Space) {
		p.take(token.Space)
		l = append(l, p.take(token.Word))
	}
	return l
}

// list takes any number of words in brackets.
func (p *parser) list() []string {
	var l []string
	p.take(token.Open)
	if !p.sees(token.Close) {
		l = p.words()
	}
	p.take(token.Close)
	return l
}

func (p *parser) mailbox() {
	switch {
	case p.sees(token.Word):
		p.c.Mailbox = p.take(token.Word)
		need(char.All(p.c.Mailbox, func(c byte) bool { return char.Atom(c) || c == ']' }))
	case p.sees(token.Quoted):
		p.c.Mailbox = p.take(token.Quoted)
	default:
		p.c.Mailbox = p.take(token.Literal)
	}
	// Only a literal cannot be longer, and no valid command has a longer mailbox.
	need(len(p.c.Mailbox) <= api.MaxLiteral)
}

func (p *parser) set() {
	set, ok := seqset.Parse(p.take(token.Word))
	need(ok)
	p.c.Set = set
}

// items adds the items with some names. There must be one.
func (p *parser) items(names []string) {
	need(len(names) > 0)
	for _, name := range names {
		item, ok := Item(name)
		need(ok)
		p.c.Items |= item
	}
}

func (p *parser) mode() {
	modes := map[string]int{"FLAGS": api.Replace, "+FLAGS": api.Add, "-FLAGS": api.Remove}
	name, silent := strings.CutSuffix(char.Upper(p.take(token.Word)), ".SILENT")
	mode, ok := modes[name]
	need(ok)
	p.c.Mode, p.c.Silent = mode, silent
}

// flags sets the flags with some names, which are words, so that none of them has a bracket or a space.
func (p *parser) flags(names []string) {
	f, ok := flag.Parse("(" + strings.Join(names, " ") + ")")
	need(ok)
	p.c.Flags = f
}
