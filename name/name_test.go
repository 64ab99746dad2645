package name_test

import (
	"math"
	"math/rand"
	"regexp"
	"slices"
	"strings"
	"testing"
	"unsafe"

	"treadwheel/api"
	"treadwheel/name"
)

const most = 16 // bytes of a name

// plain is what a name is, said once more.
var plain = regexp.MustCompile(`^(?:[a-zA-Z][a-zA-Z0-9:]{0,15}|[-+*/<>=~&|%]{1,2})$`)

// plainArgs is Args said once more.
func plainArgs(s string) int {
	if !plain.MatchString(s) {
		return -1
	}
	if strings.ContainsAny(s[:1], "+-*/<>=~&|%") {
		return 1
	}
	return len(strings.Split(s, ":")) - 1
}

// judged tells t where Right, Args, Of or Text back is not what s asks.
func judged(t *testing.T, s string) {
	t.Helper()
	want := plain.MatchString(s)
	if got := name.Right(s); got != want {
		t.Errorf("P11.1: Right(%q): %v", s, got)
	}
	if got := name.Args(s); got != plainArgs(s) {
		t.Errorf("P11.1: Args(%q): %d, not %d", s, got, plainArgs(s))
	}
	var key name.Key
	if want {
		for i := range len(s) {
			key[i] = s[i]
		}
	}
	k, ok := name.Of(s)
	if k != key || ok != want {
		t.Errorf("P11.1: Of(%q): %v, %v", s, k, ok)
	}
	if got := name.Text(k); want && got != s {
		t.Errorf("P11.1: Text(Of(%q)): %q", s, got)
	}
}

func TestRight(t *testing.T) {
	for _, s := range []string{
		"a", "z", "A", "Z", "at", "at:", "at:put:", "a:b", "a:b:c", "a::", "a:::::::::::::::", "a1", "a1:2", "a:1", "x9Y:z", "aZ",
		"abcdefghijklmnop", "abcdefghijklmno:", "ABCDEFGHIJKLMNO9", "Array", "nil", "i0", "azAZ09:",
		"+", "-", "*", "/", "<", ">", "=", "~", "&", "|", "%", "<=", ">=", "==", "~=", "--", "//", "%%", "||", "-+",
	} {
		if !name.Right(s) {
			t.Errorf("P11.1: Right(%q): false", s)
		}
		judged(t, s)
	}
}

func TestRightOfWrong(t *testing.T) {
	for _, s := range []string{
		"", ":", ":a", "::", ":a:", "1", "9a", "0:", "1+", "abcdefghijklmnopq", "abcdefghijklmnop:", "a::::::::::::::::",
		"+++", "<=>", "===", "----------------", "-----------------", "a+", "+a", "+:", ":+", "a-b", "a=", "=1", "-1", "1-", "at:+", "+1+",
		" ", " a", "a ", "a b", "a\n", "a\x00", "\x00a", "\x00", "a\x00b", "\n", "a_b", "_", "_a", "a.b", "a!", "!", "?", "^", "@", "[", "`", "{", ";", "\\", "#", "$", "(", ",", ".", "'", "\"",
		"+\x00", "+ ", " +", "+\n", "é", "aé", "ä:", "a\xff", "\xff", "\xe9", "a\xe9", "Ⅷ", "a٣", "ａ", "a：", "＋", "+＋", "\u017f", "\u212a",
	} {
		if name.Right(s) {
			t.Errorf("P11.1: Right(%q): true", s)
		}
		judged(t, s)
	}
}

// Each byte alone, each pair, and each byte at each place of names of each length.
func TestRightOfEachByte(t *testing.T) {
	for c := range 256 {
		one := string([]byte{byte(c)})
		judged(t, one)
		for d := range 256 {
			judged(t, one+string([]byte{byte(d)}))
		}
		for length := 3; length <= most+1; length++ {
			for at := range length {
				for _, fill := range []string{"b", "7", ":", "+"} {
					s := "q" + strings.Repeat(fill, length-1)
					judged(t, s[:at]+one+s[at+1:])
				}
			}
		}
	}
}

func TestRightOfLength(t *testing.T) {
	for _, fill := range []string{"a", "Z", "a:", "+", "<=", "a1", ":", "0", "\x00"} {
		for length := range 40 {
			judged(t, strings.Repeat(fill, length))
		}
		for _, length := range []int{255, 256, 257, 258, 272, 1 << 16, 1<<16 + 1, 1<<16 + 2, 1 << 22} {
			judged(t, strings.Repeat(fill, length))
		}
	}
}

func TestArgs(t *testing.T) {
	for s, want := range map[string]int{
		"at:put:": 2, "at": 0, "a": 0, "at:": 1, "a:b": 1, "a:b:c": 2, "a:b:c:": 3, "a::": 2, "a:1": 1, "a:::::::::::::::": 15,
		"+": 1, "<=": 1, "~": 1, "%%": 1, "-": 1, "--": 1,
		"": -1, ":": -1, ":a": -1, "::": -1, "1:": -1, "+:": -1, "+++": -1, "a::::::::::::::::": -1, "a:+": -1, "a: ": -1, "\x00": -1,
	} {
		if got := name.Args(s); got != want {
			t.Errorf("P11.1: Args(%q): %d, not %d", s, got, want)
		}
	}
}

func TestOf(t *testing.T) {
	for s, want := range map[string]name.Key{
		"a":                {'a'},
		"at:put:":          {'a', 't', ':', 'p', 'u', 't', ':'},
		"<=":               {'<', '='},
		"abcdefghijklmnop": {'a', 'b', 'c', 'd', 'e', 'f', 'g', 'h', 'i', 'j', 'k', 'l', 'm', 'n', 'o', 'p'},
	} {
		if k, ok := name.Of(s); k != want || !ok {
			t.Errorf("P11.1: Of(%q): %v, %v", s, k, ok)
		}
	}
	for _, s := range []string{"", ":a", "a b", "+++", "abcdefghijklmnopq", "a\x00"} {
		if k, ok := name.Of(s); k != (name.Key{}) || ok {
			t.Errorf("P11.1: Of(%q), which is no name: %v, %v", s, k, ok)
		}
	}
}

// Any key has a text, a name's or not.
func TestText(t *testing.T) {
	full := name.Key([]byte("0123456789:+ \xff\n~"))
	for k, want := range map[name.Key]string{
		{}:                   "",
		{0, 'a'}:             "",
		{'a'}:                "a",
		{'a', 0, 'b'}:        "a",
		{'a', 'b', 0, 0, 1}:  "ab",
		{' ', 0xff, 1}:       " \xff\x01",
		{':', '1', '+'}:      ":1+",
		full:                 "0123456789:+ \xff\n~",
		{14: 'x', 15: 'y'}:   "",
		{'a', 'b', 15: 'y'}:  "ab",
		{0xc3, 0xa9, 0, 'x'}: "é",
	} {
		if got := name.Text(k); got != want {
			t.Errorf("P11.1: Text(%v): %q", k, got)
		}
	}
	for at := range most {
		k := full
		k[at] = 0
		if got := name.Text(k); got != "0123456789:+ \xff\n~"[:at] {
			t.Errorf("P11.1: Text, a nought at %d: %q", at, got)
		}
	}
	for c := 1; c < 256; c++ {
		want := strings.Repeat(string([]byte{byte(c)}), most)
		if got := name.Text(name.Key([]byte(want))); got != want {
			t.Errorf("P11.1: Text of 16 times %d: %q", c, got)
		}
	}
}

func TestDrawn(t *testing.T) {
	const letters = "azAZmM019:::+-*/<>=~&|% _.\x00\xc3\xa9"
	r := rand.New(rand.NewSource(11))
	for range 200000 {
		b := make([]byte, r.Intn(20))
		some := 7 + r.Intn(len(letters)-6) // so that there are right ones too
		for i := range b {
			b[i] = letters[r.Intn(some)]
		}
		judged(t, string(b))
	}
}

// has tells t where the table is not of these names: by Len, by At of each number, by Find of each and of those beside.
func has(t *testing.T, what string, names *name.Table, want, beside []string) {
	t.Helper()
	if n := names.Len(); n != len(want) {
		t.Fatalf("P11.1: %s: Len: %d, not %d", what, n, len(want))
	}
	for i, s := range want {
		if got := names.At(i); got != s {
			t.Fatalf("P11.1: %s: At(%d): %q, not %q", what, i, got, s)
		}
		if got := names.Find(s); got != i {
			t.Fatalf("P11.1: %s: Find(%q): %d, not %d", what, s, got, i)
		}
	}
	for _, i := range []int{math.MinInt, -1 << 32, -49, -2, -1, len(want), len(want) + 1, 48, 49, 100, 1 << 31, 1 << 32, 1<<32 + 1, math.MaxInt} {
		if got := names.At(i); got != "" {
			t.Fatalf("P11.1: %s: At(%d), which is none: %q", what, i, got)
		}
	}
	for _, s := range beside {
		if got := names.Find(s); got != slices.Index(want, s) {
			t.Fatalf("P11.1: %s: Find(%q): %d", what, s, got)
		}
	}
}

// wrong are no names, and easily taken for some.
var wrong = []string{"", ":", ":a", "1a", "a b", "a\x00", "a\x00\x00", "\x00", "+\x00", "+++", "a+", "at:put:\x00", "abcdefghijklmnopq", "abcdefghijklmnop\x00", "é", "a\n", strings.Repeat("a", 1<<16)}

func TestIntern(t *testing.T) {
	names := name.New()
	has(t, "New", names, nil, append([]string{"a", "+", "at:put:"}, wrong...))
	var want []string
	for _, s := range []string{"at:put:", "a", "A", "+", "a:", "ab", "++", "a1", "abcdefghijklmnop", "abcdefghijklmno", "bcdefghijklmnop", "-", "at:", "put:", "at:put"} {
		want = append(want, s)
		for range 3 {
			if i := names.Intern(s); i != len(want)-1 {
				t.Fatalf("P11.1: Intern(%q): %d, not %d", s, i, len(want)-1)
			}
			has(t, "Intern", names, want, append([]string{"b", "AT:put:", "-+", "put", "abcdefghijklmn"}, wrong...))
		}
		if i := names.Intern("at:put:"); i != 0 {
			t.Fatalf("P11.1: Intern of the first one again: %d", i)
		}
	}
}

func TestInternOfWrong(t *testing.T) {
	names := name.New()
	for _, want := range [][]string{nil, {"a"}, {"a", "+"}} {
		if len(want) > 0 {
			names.Intern(want[len(want)-1])
		}
		for _, s := range wrong {
			if i := names.Intern(s); i != -1 {
				t.Errorf("P11.1: Intern(%q), which is no name: %d", s, i)
			}
			has(t, "Intern of no name", names, want, wrong)
		}
	}
}

// many answers n names.
func many(n int) []string {
	var out []string
	for i := range n {
		out = append(out, []string{"name", "n:", "at:put:", "N9:x"}[i%4]+string(rune('a'+i/26))+string(rune('a'+i%26)))
	}
	return out
}

func TestInternUpToFull(t *testing.T) {
	names, all := name.New(), many(api.MaxNames+20)
	for i, s := range all {
		want := i
		if i >= 48 {
			want = -1
		}
		if got := names.Intern(s); got != want {
			t.Fatalf("P11.1: Intern, time %d: %d", i, got)
		}
		has(t, "up to full", names, all[:min(i+1, 48)], all)
	}
	for i, s := range all[:48] {
		if got := names.Intern(s); got != i {
			t.Errorf("P11.1: Intern of one that is there, the table full: %d, not %d", got, i)
		}
	}
	for _, s := range append(wrong, all[48:]...) {
		if got := names.Intern(s); got != -1 {
			t.Errorf("P11.1: Intern(%q), the table full: %d", s, got)
		}
	}
	has(t, "full", names, all[:48], append(all, wrong...))
}

// Find gives no number to what it is asked for.
func TestFindKeepsNothing(t *testing.T) {
	names := name.New()
	for _, s := range []string{"a", "b", "+"} {
		if i := names.Find(s); i != -1 || names.Len() != 0 {
			t.Errorf("P11.1: Find(%q): %d, Len: %d", s, i, names.Len())
		}
	}
	if i := names.Intern("b"); i != 0 {
		t.Errorf("P11.1: Intern behind Find: %d", i)
	}
}

func TestTwoTables(t *testing.T) {
	a, b := name.New(), name.New()
	for i, s := range many(api.MaxNames) {
		if k := a.Intern(s); k != i {
			t.Fatalf("P11.1: Intern: %d, not %d", k, i)
		}
	}
	has(t, "the other table", b, nil, many(api.MaxNames))
	if i := b.Intern("own"); i != 0 {
		t.Errorf("P11.1: Intern into the other table: %d", i)
	}
	has(t, "the full table", a, many(api.MaxNames), []string{"own"})
	has(t, "the other table", b, []string{"own"}, many(api.MaxNames))
}

// What a text's bytes become behind a call is nothing to the table.
func TestKeepsNoText(t *testing.T) {
	bytes := []byte("at:put:")
	names := name.New()
	names.Intern(unsafe.String(&bytes[0], len(bytes)))
	copy(bytes, "xyxyxyxy")
	has(t, "the text's bytes changed", names, []string{"at:put:"}, []string{"xyxyxyx"})
}

func TestTableDrawn(t *testing.T) {
	r := rand.New(rand.NewSource(111))
	pool := append(append(many(70), wrong...), "a", "+", "<=", "A", "abcdefghijklmnop")
	for range 300 {
		names, want := name.New(), []string(nil)
		for range 5 + r.Intn(120) {
			s := pool[r.Intn(len(pool))]
			number := slices.Index(want, s)
			if number < 0 && plain.MatchString(s) && len(want) < 48 {
				number = len(want)
				want = append(want, s)
			}
			if got := names.Intern(s); got != number {
				t.Fatalf("P11.1: drawn: Intern(%q): %d, not %d", s, got, number)
			}
			if got, find := names.Len(), names.Find(s); got != len(want) || find != number {
				t.Fatalf("P11.1: drawn: Len: %d, Find(%q): %d", got, s, find)
			}
		}
		has(t, "drawn", names, want, pool)
	}
}
