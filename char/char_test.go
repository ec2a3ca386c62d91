package char_test

import (
	"math"
	"strings"
	"testing"

	"cubbyhole/char"
)

// The classes, written out as the chapter's sentences give them.
const (
	atoms = "!#$&'+,-./0123456789:;<=>?@ABCDEFGHIJKLMNOPQRSTUVWXYZ[^_`abcdefghijklmnopqrstuvwxyz|}~"
	tags  = "!#$&',-./0123456789:;<=>?@ABCDEFGHIJKLMNOPQRSTUVWXYZ[]^_`abcdefghijklmnopqrstuvwxyz|}~"
)

// P1.1

func TestClasses(t *testing.T) {
	for n := range 256 {
		c := byte(n)
		if got, want := char.Atom(c), strings.IndexByte(atoms, c) >= 0; got != want {
			t.Errorf("Atom(%d) = %v", c, got)
		}
		if got, want := char.Tag(c), strings.IndexByte(tags, c) >= 0; got != want {
			t.Errorf("Tag(%d) = %v", c, got)
		}
		if got, want := char.Text(c), n >= 1 && n <= 127 && n != 10 && n != 13; got != want {
			t.Errorf("Text(%d) = %v", c, got)
		}
	}
}

func TestExampleOfTags(t *testing.T) {
	var got []byte
	for _, c := range []byte("a]+b") {
		if char.Tag(c) {
			got = append(got, c)
		}
	}
	if string(got) != "a]b" {
		t.Errorf("%q", got)
	}
}

func TestAll(t *testing.T) {
	tests := []struct {
		s               string
		atom, tag, text bool
	}{
		{"", false, false, false},
		{"a", true, true, true},
		{"A001", true, true, true},
		{"a+", true, false, true},
		{"+a", true, false, true},
		{"a]", false, true, true},
		{"a b", false, false, true},
		{"a\\", false, false, true},
		{"a\x7f", false, false, true},
		{"a\tb", false, false, true},
		{"a\n", false, false, false},
		{"\ra", false, false, false},
		{"\x00", false, false, false},
		{"a\x00b", false, false, false},
		{"\x80", false, false, false},
		{"caf\u00e9", false, false, false},
		{"\xff", false, false, false},
		{strings.Repeat("x", 1<<16), true, true, true},
		{strings.Repeat("x", 1<<16) + "\n", false, false, false},
	}
	for _, x := range tests {
		if got := char.All(x.s, char.Atom); got != x.atom {
			t.Errorf("All(%.20q, Atom) = %v", x.s, got)
		}
		if got := char.All(x.s, char.Tag); got != x.tag {
			t.Errorf("All(%.20q, Tag) = %v", x.s, got)
		}
		if got := char.All(x.s, char.Text); got != x.text {
			t.Errorf("All(%.20q, Text) = %v", x.s, got)
		}
	}
}

func TestAllAsksForBytes(t *testing.T) {
	yes := func(byte) bool { return true }
	if char.All("", yes) {
		t.Error("an empty string")
	}
	if !char.All("\x00\u00e9\xff", yes) {
		t.Error("a function that accepts every byte")
	}
	if !char.All("\xc3\xa9", func(c byte) bool { return c == 0xc3 || c == 0xa9 }) {
		t.Error("a letter of two bytes was not asked for by its bytes")
	}
	for _, s := range []string{"xab", "axb", "abx"} {
		if char.All(s, func(c byte) bool { return c != 'x' }) {
			t.Error(s)
		}
	}
}

// P1.2

func TestUpperOfEachByte(t *testing.T) {
	for n := range 256 {
		want := n
		if n >= 97 && n <= 122 {
			want = n - 32
		}
		// The neighbour makes some of the strings UTF-8 and leaves others none.
		for _, s := range []string{"", "z", "\xc3", "\xa9"} {
			got := char.Upper(s + string([]byte{byte(n)}))
			if got != strings.ReplaceAll(s, "z", "Z")+string([]byte{byte(want)}) {
				t.Errorf("Upper of %q and %d: %q", s, n, got)
			}
		}
	}
}

func TestUpper(t *testing.T) {
	for s, want := range map[string]string{
		"":                   "",
		"inbox":              "INBOX",
		"INBOX":              "INBOX",
		"Body.Peek[]":        "BODY.PEEK[]",
		"@`az{AZ[":           "@`AZ{AZ[",
		"stra\u00dfe":        "STRA\u00dfE",
		"\u00e9\u017f\u01c6": "\u00e9\u017f\u01c6",
		"\xe1z\x00\xff":      "\xe1Z\x00\xff",
	} {
		if got := char.Upper(s); got != want {
			t.Errorf("Upper(%q) = %q", s, got)
		}
		if got := char.Upper(want); got != want {
			t.Errorf("Upper(%q) = %q", want, got)
		}
	}
}

func TestSame(t *testing.T) {
	for _, x := range [][2]string{{"", ""}, {"noop", "NOOP"}, {"NoOp", "nOoP"}, {"a1", "A1"}, {"\xff", "\xff"}, {"\u00e9a", "\u00e9A"}} {
		if !char.Same(x[0], x[1]) || !char.Same(x[1], x[0]) {
			t.Errorf("%q and %q are not the same", x[0], x[1])
		}
	}
	// U+017F and U+212A are an s and a k to the folding of Unicode, and bytes that are no UTF-8 are alike to it.
	for _, x := range [][2]string{{"", "a"}, {"a", "aa"}, {"a", "b"}, {"[", "{"}, {"@", "`"}, {"\u00e9", "\u00c9"}, {"s", "\u017f"}, {"k", "\u212a"}, {"\xfe", "\xff"}, {"a", "a\x00"}} {
		if char.Same(x[0], x[1]) || char.Same(x[1], x[0]) {
			t.Errorf("%q and %q are the same", x[0], x[1])
		}
	}
}

func TestSameIsSameUpper(t *testing.T) {
	for a := range 256 {
		for b := range 256 {
			x, y := string([]byte{byte(a)}), string([]byte{byte(b)})
			if char.Same(x, y) != (char.Upper(x) == char.Upper(y)) {
				t.Errorf("%q and %q", x, y)
			}
		}
	}
}

// P1.3

func TestNumber(t *testing.T) {
	for s, want := range map[string]uint32{
		"0":          0,
		"1":          1,
		"9":          9,
		"10":         10,
		"100":        100,
		"65536":      65536,
		"999999999":  999999999,
		"1000000000": 1000000000,
		"2147483647": math.MaxInt32,
		"2147483648": math.MaxInt32 + 1,
		"4294967290": math.MaxUint32 - 5,
		"4294967295": math.MaxUint32,
	} {
		if n, ok := char.Number(s); n != want || !ok {
			t.Errorf("Number(%q) = %d, %v", s, n, ok)
		}
		if got := char.Decimal(want); got != s {
			t.Errorf("Decimal(%d) = %q", want, got)
		}
	}
}

func TestNoNumber(t *testing.T) {
	for _, s := range []string{
		"", "00", "01", "007", "0000000000", "04294967295", // leading zeros
		"4294967296", "4294967300", "5000000000", "9999999999", "10000000000", "18446744073709551615", "18446744073709551616", // more than 2^32 - 1
		strings.Repeat("9", 5000), "1" + strings.Repeat("0", 5000), strings.Repeat("0", 5000) + "1",
		"+1", "-1", "-0", "+0", "--1", // signs
		" 1", "1 ", "1\n", "\t1", "1 2", "1,000", "1.0", "1e3", // other bytes
		"1_0", "0x1", "0b1", "0o7", "1a", "a", "ff", "*", "/", ":", "1:", "/1",
		"\x00", "1\x00", "\xff", "\u0661", "\uff11", // digits of other scripts
	} {
		if n, ok := char.Number(s); n != 0 || ok {
			t.Errorf("Number(%.20q) = %d, %v", s, n, ok)
		}
	}
}

func TestNumberOfShortStrings(t *testing.T) {
	digit := func(c byte) bool { return c >= 48 && c <= 57 }
	for a := range 256 {
		x := byte(a)
		if n, ok := char.Number(string([]byte{x})); ok != digit(x) || ok && n != uint32(x-48) || !ok && n != 0 {
			t.Errorf("Number of the byte %d: %d, %v", x, n, ok)
		}
		for b := range 256 {
			y := byte(b)
			n, ok := char.Number(string([]byte{x, y}))
			if ok != (digit(x) && x != 48 && digit(y)) || ok && n != uint32(x-48)*10+uint32(y-48) || !ok && n != 0 {
				t.Errorf("Number of the bytes %d and %d: %d, %v", x, y, n, ok)
			}
		}
	}
}

func TestNumberInvertsDecimal(t *testing.T) {
	check := func(want uint32) {
		s := char.Decimal(want)
		if n, ok := char.Number(s); n != want || !ok || s != "0" && s[0] == '0' {
			t.Errorf("Number(%q) = %d, %v", s, n, ok)
		}
	}
	for n := range uint32(1 << 12) {
		check(n)
		check(math.MaxUint32 - n)
		check(n * 1048573)
	}
	for p := uint32(1); ; p *= 10 {
		check(p - 1)
		check(p)
		if p > math.MaxUint32/10 {
			break
		}
	}
}
