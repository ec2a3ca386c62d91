package resp

import (
	"strings"

	"cubbyhole/api"
	"cubbyhole/char"
	"cubbyhole/flag"
	"cubbyhole/quote"
)

// lineEnd ends the form of a response.
const lineEnd = "\r\n"

// fetchedItems is the sum of the items that a response may have.
const fetchedItems = api.ItemFlags | api.ItemUID | api.ItemSize | api.ItemBody

// form is the form of the responses of a kind.
type form struct {
	own  func(r api.Response) api.Response // returns a response with only those fields that occur in the form
	fits func(r api.Response) bool         // reports whether these fields are within their bounds
	line func(r api.Response) string       // returns the form of a valid response, without its end
}

// forms returns the forms of the kinds.
func forms() map[int]form {
	return map[int]form{
		api.Exists:   countForm("EXISTS"),
		api.Recent:   countForm("RECENT"),
		api.Expunged: countForm("EXPUNGE"),
		api.Fetched:  {own: fetchedOwn, fits: fetchedFits, line: fetchedLine},
		api.FlagList: flagListForm(),
		api.Info:     textForm("* OK "),
		api.Bye:      textForm("* BYE "),
		api.BadLine:  textForm("* BAD "),
		api.Tagged:   {own: taggedOwn, fits: taggedFits, line: taggedLine},
		api.Continue: textForm("+ "),
	}
}

// formOf returns the form of a response, and whether the response is valid.
func formOf(r api.Response) (form, bool) {
	f, ok := forms()[r.Kind]
	if !ok || !f.fits(r) || !Same(r, f.own(r)) {
		return form{}, false
	}
	return f, true
}

// unbounded is for fields of which every value is permitted.
func unbounded(api.Response) bool { return true }

// countForm returns the form of a number and what it counts.
func countForm(word string) form {
	return form{
		own:  func(r api.Response) api.Response { return api.Response{Kind: r.Kind, N: r.N} },
		fits: unbounded,
		line: func(r api.Response) string { return "* " + char.Decimal(r.N) + " " + word },
	}
}

// flagListForm returns the form of the list of all flags.
func flagListForm() form {
	return form{
		own:  func(r api.Response) api.Response { return api.Response{Kind: r.Kind} },
		fits: unbounded,
		line: func(api.Response) string { return "* FLAGS " + flag.List(api.AllFlags) },
	}
}

// textForm returns the form of a text after a prefix.
func textForm(prefix string) form {
	return form{
		own:  func(r api.Response) api.Response { return api.Response{Kind: r.Kind, Text: r.Text} },
		fits: func(r api.Response) bool { return char.All(r.Text, char.Text) },
		line: func(r api.Response) string { return prefix + r.Text },
	}
}

func taggedOwn(r api.Response) api.Response { return Reply(r.Tag, r.Status, r.Text) }

func taggedFits(r api.Response) bool {
	return char.All(r.Tag, char.Tag) && api.StatusOK <= r.Status && r.Status <= api.StatusBAD && char.All(r.Text, char.Text)
}

func taggedLine(r api.Response) string {
	status := [...]string{api.StatusOK: "OK", api.StatusNO: "NO", api.StatusBAD: "BAD"}[r.Status]
	return r.Tag + " " + status + " " + r.Text
}

func fetchedOwn(r api.Response) api.Response {
	r.Tag, r.Status, r.Text = "", 0, ""
	return among(r)
}

func fetchedFits(r api.Response) bool {
	return r.Items != 0 && r.Items&^fetchedItems == 0 && r.Flags&^api.AllFlags == 0 && len(r.Body) <= api.MaxLiteral
}

func fetchedLine(r api.Response) string {
	var parts []string
	put := func(item int, part string) {
		if r.Items&item != 0 {
			parts = append(parts, part)
		}
	}
	put(api.ItemFlags, "FLAGS "+flag.List(r.Flags))
	put(api.ItemUID, "UID "+char.Decimal(r.UID))
	put(api.ItemSize, "RFC822.SIZE "+char.Decimal(r.Size))
	put(api.ItemBody, "BODY[] "+string(quote.Literal(r.Body)))
	return "* " + char.Decimal(r.N) + " FETCH (" + strings.Join(parts, " ") + ")"
}

// among returns a response without the fields of items that are not among its own.
func among(r api.Response) api.Response {
	if r.Items&api.ItemFlags == 0 {
		r.Flags = 0
	}
	if r.Items&api.ItemUID == 0 {
		r.UID = 0
	}
	if r.Items&api.ItemSize == 0 {
		r.Size = 0
	}
	if r.Items&api.ItemBody == 0 {
		r.Body = nil
	}
	return r
}
