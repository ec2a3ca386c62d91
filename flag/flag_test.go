package flag_test

import (
	"math"
	"regexp"
	"slices"
	"strings"
	"sync"
	"testing"

	"cubbyhole/api"
	"cubbyhole/flag"
)

// single is a flag with its name, as the chapter's sentence gives it.
type single struct {
	f    api.Flags
	name string
}

// singles returns the flags in ascending order of their numbers.
func singles() []single {
	return []single{{1, "\\Answered"}, {2, "\\Flagged"}, {4, "\\Deleted"}, {8, "\\Seen"}, {16, "\\Draft"}}
}

// every calls f with every value of flags, those with bits of no flag among them.
func every(f func(api.Flags)) {
	for n := range 256 {
		f(api.Flags(n))
	}
}

// P3.1

func TestName(t *testing.T) {
	want := map[api.Flags]string{}
	for _, x := range singles() {
		want[x.f] = x.name
	}
	every(func(f api.Flags) {
		if got := flag.Name(f); got != want[f] {
			t.Errorf("Name(%d) = %q", f, got)
		}
	})
}

func TestEach(t *testing.T) {
	for f, want := range map[api.Flags][]api.Flags{
		0:                           {},
		api.Answered:                {1},
		api.Flagged:                 {2},
		api.Deleted:                 {4},
		api.Seen:                    {8},
		api.Draft:                   {16},
		api.Draft | api.Answered:    {1, 16},
		api.Seen | api.Deleted:      {4, 8},
		api.AllFlags:                {1, 2, 4, 8, 16},
		api.AllFlags &^ api.Deleted: {1, 2, 8, 16},
		32:                          {},
		64:                          {},
		128:                         {},
		224:                         {},
		224 | api.Seen:              {8},
		255:                         {1, 2, 4, 8, 16},
	} {
		if got := flag.Each(f); !slices.Equal(got, want) {
			t.Errorf("Each(%d) = %v", f, got)
		}
	}
}

func TestEachOfEverySet(t *testing.T) {
	every(func(f api.Flags) {
		var want []api.Flags
		for _, x := range singles() {
			if f/x.f%2 == 1 {
				want = append(want, x.f)
			}
		}
		if got := flag.Each(f); !slices.Equal(got, want) {
			t.Errorf("Each(%d) = %v", f, got)
		}
	})
}

// P3.2

func TestParse(t *testing.T) {
	for s, want := range map[string]api.Flags{
		"()":                       0,
		"(\\Answered)":             api.Answered,
		"(\\Flagged)":              api.Flagged,
		"(\\Deleted)":              api.Deleted,
		"(\\Seen)":                 api.Seen,
		"(\\Draft)":                api.Draft,
		"(\\seen)":                 api.Seen,
		"(\\SEEN)":                 api.Seen,
		"(\\sEeN)":                 api.Seen,
		"(\\Deleted \\Seen)":       api.Deleted | api.Seen,
		"(\\Seen \\Deleted)":       api.Deleted | api.Seen,
		"(\\dRAFT \\flagged)":      api.Draft | api.Flagged,
		"(\\Seen \\Seen)":          api.Seen,
		"(\\Seen \\SEEN \\seen)":   api.Seen,
		"(\\Seen \\Draft \\Seen)":  api.Seen | api.Draft,
		"(\\Draft \\Draft \\Seen)": api.Seen | api.Draft,
		"(\\Answered \\Flagged \\Deleted \\Seen \\Draft)":             api.AllFlags,
		"(\\Draft \\Seen \\Deleted \\Flagged \\Answered)":             api.AllFlags,
		"(\\Draft" + strings.Repeat(" \\Seen", 1<<16) + " \\Flagged)": api.Flagged | api.Seen | api.Draft,
	} {
		if f, ok := flag.Parse(s); f != want || !ok {
			t.Errorf("Parse(%.60q) = %d, %v", s, f, ok)
		}
	}
}

func TestParseOfEachCase(t *testing.T) {
	for _, x := range singles() {
		for bits := range 1 << (len(x.name) - 1) {
			name := []byte(strings.ToLower(x.name))
			for i := range name[1:] {
				if bits>>i&1 == 1 {
					name[i+1] -= 'a' - 'A'
				}
			}
			if f, ok := flag.Parse("(" + string(name) + ")"); f != x.f || !ok {
				t.Errorf("Parse((%s)) = %d, %v", name, f, ok)
			}
		}
	}
}

func TestParseNoList(t *testing.T) {
	for _, s := range []string{
		"", " ", "(", ")", ")(", "\\Seen", "\\Seen \\Draft", // brackets that lack
		"(\\Seen", "\\Seen)", "(\\Seen \\Draft", "\\Seen \\Draft)", ")\\Seen(",
		"((", "))", "(()", "())", "(())", "()()", "(\\Seen)(\\Draft)", "(\\Seen) (\\Draft)", // too many brackets
		"((\\Seen))", "((\\Seen)", "(\\Seen))", "(\\Seen (\\Draft))", "(() \\Seen)",
		"[\\Seen]", "{\\Seen}", "<\\Seen>", "\"\\Seen\"", "[]", "{}",
		"( )", "(  )", "( \\Seen)", "(\\Seen )", "( \\Seen )", "(\\Seen  \\Draft)", "(\\Seen \\Draft )", // spaces
		" ()", "() ", " (\\Seen)", "(\\Seen) ", "(\\Seen\\Draft)", "(\\Seen,\\Draft)", "(\\Seen, \\Draft)",
		"(\\Seen\t\\Draft)", "(\\Seen\n\\Draft)", "(\\Seen\u00a0\\Draft)", "(\\ Seen)", "(\\See n)",
		"()\r\n", "(\\Seen)\r\n", "(\\Seen\r\n)", "(\\Seen)\n",
		"(Seen)", "(seen)", "(\\)", "(\\\\)", "(\\\\Seen)", "(/Seen)", "(\\Seen\\)", "(\\Seen \\)", // no names
		"(\\Recent)", "(\\Seen \\Recent)", "(\\*)", "(*)", "($Forwarded)", "(\\Unseen)", "(\\Inbox)",
		"(\\See)", "(\\Seenn)", "(\\Seen0)", "(\\een)", "(\\SSeen)", "(\\Delete)", "(\\Undeleted)", "(\\Drafts)",
		"(8)", "(0)", "(NIL)", "NIL", "(FLAGS)", "FLAGS (\\Seen)",
		"(\\Seen\x00)", "(\x00)", "\x00", "(\\Seen\xff)", "(\xff)", "(\\S\xe9en)",
		"(\\\u017feen)", "(\\An\u017fwered)", "(\\Dra\ufb05)", "(\uff3cSeen)", "(\\\u0405een)", // letters that Unicode takes for others
		"(" + strings.Repeat("\\Seen ", 1<<16) + ")", "(" + strings.Repeat("\\Seen ", 1<<16) + "\\Recent)",
		"(\\" + strings.Repeat("Seen", 1<<16) + ")", strings.Repeat("(", 1<<16) + strings.Repeat(")", 1<<16),
	} {
		if f, ok := flag.Parse(s); f != 0 || ok {
			t.Errorf("Parse(%.60q) = %d, %v", s, f, ok)
		}
	}
}

func TestParseOfShortTexts(t *testing.T) {
	syntax := regexp.MustCompile(`^\(((\\Seen|\\dRAFT)( (\\Seen|\\dRAFT))*)?\)$`)
	parts := []string{"(", ")", " ", "\\Seen", "\\dRAFT", "\\", "Seen"}
	texts := []string{""}
	for range 6 {
		var longer []string
		for _, s := range texts {
			for _, p := range parts {
				longer = append(longer, s+p)
			}
		}
		texts = longer
		for _, s := range texts {
			valid := syntax.MatchString(s)
			var want api.Flags
			if valid && strings.Contains(s, "\\Seen") {
				want |= api.Seen
			}
			if valid && strings.Contains(s, "\\dRAFT") {
				want |= api.Draft
			}
			if f, ok := flag.Parse(s); f != want || ok != valid {
				t.Errorf("Parse(%q) = %d, %v", s, f, ok)
			}
		}
	}
}

// No byte can be left out of a list or added to it, and none can be another one, unless it is a letter of the other case.
func TestParseOfChangedBytes(t *testing.T) {
	const list = "(\\Answered \\Flagged \\Deleted \\Seen \\Draft)"
	no := func(s string) {
		if f, ok := flag.Parse(s); f != 0 || ok {
			t.Errorf("Parse(%q) = %d, %v", s, f, ok)
		}
	}
	letter := func(c byte) bool { return c >= 'a' && c <= 'z' || c >= 'A' && c <= 'Z' }
	for i := range len(list) {
		no(list[:i] + list[i+1:])
		for n := range 256 {
			c := byte(n)
			no(list[:i] + string([]byte{c}) + list[i:])
			s := list[:i] + string([]byte{c}) + list[i+1:]
			if c == list[i] || letter(c) && c^32 == list[i] {
				if f, ok := flag.Parse(s); f != api.AllFlags || !ok {
					t.Errorf("Parse(%q) = %d, %v", s, f, ok)
				}
			} else {
				no(s)
			}
		}
	}
	for n := range 256 {
		no(list + string([]byte{byte(n)}))
	}
}

func TestList(t *testing.T) {
	for f, want := range map[api.Flags]string{
		0:                        "()",
		api.Answered:             "(\\Answered)",
		api.Flagged:              "(\\Flagged)",
		api.Deleted:              "(\\Deleted)",
		api.Seen:                 "(\\Seen)",
		api.Draft:                "(\\Draft)",
		api.Seen | api.Deleted:   "(\\Deleted \\Seen)",
		api.Draft | api.Answered: "(\\Answered \\Draft)",
		api.AllFlags:             "(\\Answered \\Flagged \\Deleted \\Seen \\Draft)",
		32:                       "()",
		224:                      "()",
		64 | api.Flagged:         "(\\Flagged)",
		255:                      "(\\Answered \\Flagged \\Deleted \\Seen \\Draft)",
	} {
		if got := flag.List(f); got != want {
			t.Errorf("List(%d) = %q", f, got)
		}
	}
}

func TestListOfEverySet(t *testing.T) {
	every(func(f api.Flags) {
		var names []string
		for _, x := range singles() {
			if f&x.f == x.f {
				names = append(names, x.name)
			}
		}
		if got := flag.List(f); got != "("+strings.Join(names, " ")+")" {
			t.Errorf("List(%d) = %q", f, got)
		}
	})
}

// P3.3

func TestChange(t *testing.T) {
	for _, x := range []struct {
		old  api.Flags
		mode int
		f    api.Flags
		want api.Flags
	}{
		{0, api.Replace, 0, 0},
		{0, api.Replace, api.Seen, api.Seen},
		{api.Seen, api.Replace, 0, 0},
		{api.Seen | api.Draft, api.Replace, api.Draft | api.Flagged, api.Draft | api.Flagged},
		{api.AllFlags, api.Replace, api.Answered, api.Answered},
		{0, api.Add, 0, 0},
		{0, api.Add, api.AllFlags, api.AllFlags},
		{api.Seen, api.Add, 0, api.Seen},
		{api.Seen, api.Add, api.Seen, api.Seen},
		{api.Seen | api.Draft, api.Add, api.Draft | api.Flagged, api.Flagged | api.Seen | api.Draft},
		{0, api.Remove, 0, 0},
		{0, api.Remove, api.AllFlags, 0},
		{api.Seen, api.Remove, 0, api.Seen},
		{api.Seen, api.Remove, api.Draft, api.Seen},
		{api.Seen | api.Draft, api.Remove, api.Draft | api.Flagged, api.Seen},
		{api.AllFlags, api.Remove, api.AllFlags, 0},
	} {
		if got, ok := flag.Change(x.old, x.mode, x.f); got != x.want || !ok {
			t.Errorf("Change(%d, %d, %d) = %d, %v", x.old, x.mode, x.f, got, ok)
		}
	}
}

// changed returns what Change is to return: it asks for each flag alone.
func changed(old api.Flags, mode int, f api.Flags) (api.Flags, bool) {
	if mode < 0 || mode > 2 || old > 31 || f > 31 {
		return 0, false
	}
	var after api.Flags
	for _, x := range singles() {
		before, given := old/x.f%2 == 1, f/x.f%2 == 1
		if mode == 0 && given || mode == 1 && (before || given) || mode == 2 && before && !given {
			after += x.f
		}
	}
	return after, true
}

func TestChangeOfEverySet(t *testing.T) {
	modes := []int{math.MinInt, math.MinInt32, -256, -1, 0, 1, 2, 3, 4, 255, 256, 257, 258, math.MaxInt32, 1 << 32, 1<<32 + 1, math.MaxInt}
	every(func(old api.Flags) {
		every(func(f api.Flags) {
			for _, mode := range modes {
				want, valid := changed(old, mode, f)
				if got, ok := flag.Change(old, mode, f); got != want || ok != valid {
					t.Errorf("Change(%d, %d, %d) = %d, %v", old, mode, f, got, ok)
				}
			}
		})
	})
}

func TestNoChange(t *testing.T) {
	for _, x := range []struct {
		old  api.Flags
		mode int
		f    api.Flags
	}{
		{5, 3, 1},
		{5, -1, 1},
		{0, 4, 0},
		{32, api.Replace, 1},
		{32, api.Add, 1},
		{32, api.Remove, 1},
		{1, api.Replace, 32},
		{1, api.Add, 64},
		{1, api.Remove, 128},
		{128, api.Remove, 128},
		{255, api.Replace, 255},
		{33, api.Replace, 0},
		{255, 7, 255},
	} {
		if got, ok := flag.Change(x.old, x.mode, x.f); got != 0 || ok {
			t.Errorf("Change(%d, %d, %d) = %d, %v", x.old, x.mode, x.f, got, ok)
		}
	}
}

// P3.4

func TestParseInvertsList(t *testing.T) {
	every(func(f api.Flags) {
		if got, ok := flag.Parse(flag.List(f)); got != f%32 || !ok {
			t.Errorf("Parse(%q) = %d, %v", flag.List(f), got, ok)
		}
		if got, ok := flag.Parse(strings.ToUpper(flag.List(f))); got != f%32 || !ok {
			t.Errorf("Parse(%q) = %d, %v", strings.ToUpper(flag.List(f)), got, ok)
		}
	})
}

func TestListOfNames(t *testing.T) {
	for _, x := range singles() {
		if got := flag.List(x.f); got != "("+flag.Name(x.f)+")" {
			t.Errorf("List(%d) = %q", x.f, got)
		}
		if got, ok := flag.Parse("(" + flag.Name(x.f) + ")"); got != x.f || !ok {
			t.Errorf("Parse((%s)) = %d, %v", flag.Name(x.f), got, ok)
		}
	}
}

func TestAddAndRemove(t *testing.T) {
	for old := range api.AllFlags + 1 {
		for f := range api.AllFlags + 1 {
			added, ok := flag.Change(old, api.Add, f)
			if !ok {
				t.Errorf("Change(%d, Add, %d) has no result", old, f)
			}
			if got, ok := flag.Change(added, api.Remove, f); got != old&^f || !ok {
				t.Errorf("Change(%d, Remove, %d) = %d, %v", added, f, got, ok)
			}
		}
	}
}

// P1 and P2

func TestResultsShareNoMemory(t *testing.T) {
	for range 2 {
		a, b := flag.Each(255), flag.Each(255)
		clear(a)
		if !slices.Equal(b, []api.Flags{1, 2, 4, 8, 16}) || flag.List(255) != "(\\Answered \\Flagged \\Deleted \\Seen \\Draft)" {
			t.Error(a, b)
		}
	}
}

func TestConcurrentCalls(t *testing.T) {
	var all sync.WaitGroup
	for range 8 {
		all.Go(func() {
			every(func(f api.Flags) {
				got, ok := flag.Parse(flag.List(f))
				added, _ := flag.Change(f%32, api.Add, api.Seen)
				if got != f%32 || !ok || added != f%32|api.Seen || flag.Name(api.Seen) != "\\Seen" {
					t.Error("a concurrent call has another result")
				}
			})
		})
	}
	all.Wait()
}
