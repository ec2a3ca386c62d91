package client

import (
	"strings"

	"cubbyhole/api"
	"cubbyhole/char"
	"cubbyhole/command"
	"cubbyhole/flag"
	"cubbyhole/quote"
	"cubbyhole/seqset"
)

// lineEnd ends the text of a command.
const lineEnd = "\r\n"

// writer writes the commands of a kind.
type writer struct {
	rest func(c api.Command, put func(part string)) // puts the parts after the verb
}

// writers returns the writers of the kinds.
func writers() map[int]writer {
	bare := writer{func(api.Command, func(string)) {}}
	return map[int]writer{
		api.Noop:    bare,
		api.Logout:  bare,
		api.Close:   bare,
		api.Expunge: bare,
		api.Select:  {selectRest},
		api.Append:  {appendRest},
		api.Fetch:   {fetchRest},
		api.Store:   {storeRest},
	}
}

// text returns the text of a valid command.
func text(c api.Command) []byte {
	b := []byte(c.Tag)
	put := func(part string) {
		b = append(b, ' ')
		b = append(b, part...)
	}
	put(command.Verb(c.Kind))
	writers()[c.Kind].rest(c, put)
	return append(b, lineEnd...)
}

func selectRest(c api.Command, put func(part string)) { put(mailbox(c.Mailbox)) }

func appendRest(c api.Command, put func(part string)) {
	put(mailbox(c.Mailbox))
	if c.Flags != 0 {
		put(flag.List(c.Flags))
	}
	put(string(quote.Literal(c.Data)))
}

func fetchRest(c api.Command, put func(part string)) {
	put(seqset.Print(c.Set...))
	put("(" + strings.Join(names(c.Items), " ") + ")")
}

func storeRest(c api.Command, put func(part string)) {
	put(seqset.Print(c.Set...))
	put(mode(c.Mode, c.Silent))
	put(flag.List(c.Flags))
}

// mailbox returns the part for a mailbox.
func mailbox(name string) string {
	if char.All(name, char.Atom) {
		return name
	}
	return string(quote.Best([]byte(name)))
}

// names returns the names of some items in the order of their numbers.
func names(items int) []string {
	var l []string
	for _, name := range []string{"FLAGS", "UID", "RFC822.SIZE", "BODY.PEEK[]", "BODY[]"} {
		if item, _ := command.Item(name); items&item != 0 {
			l = append(l, name)
		}
	}
	return l
}

// mode returns the part for a mode.
func mode(n int, silent bool) string {
	name := [...]string{api.Replace: "FLAGS", api.Add: "+FLAGS", api.Remove: "-FLAGS"}[n]
	if silent {
		name += ".SILENT"
	}
	return name
}
