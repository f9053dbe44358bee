package perm_test

import (
	"math"
	"strings"
	"testing"

	"runrig/api"
	"runrig/perm"
)

const mostPpn = 1<<44 - 1

// letters of an entry's text.
const letters = "vrwxugad"

// noAccesses are accesses that aren't: those just outside, near the ends of int, and
// those that are one in 2, 8, 16, 32 or 63 bits.
var noAccesses = []api.Access{
	-1, -2, -3, -4, -5, -8, -16, -254, -255, -256, -65534, -65535, -65536,
	3, 4, 5, 6, 7, 8, 9, 10, 16, 64, 128, 255, 256, 257, 258, 65535, 65536, 65537, 65538,
	math.MaxInt32, math.MaxInt32 + 1, math.MinInt32, math.MinInt32 - 1,
	1 << 32, 1<<32 + 1, 1<<32 + 2, -1 << 32, -1<<32 + 1, -1<<32 + 2, 1 << 62, 1<<62 + 1, 1<<62 + 2,
	math.MaxInt, math.MaxInt - 1, math.MaxInt - 2, math.MaxInt - 3,
	math.MinInt, math.MinInt + 1, math.MinInt + 2, math.MinInt + 3,
}

// accesses: those that are one, and those that aren't.
func accesses() []api.Access {
	return append([]api.Access{api.Fetch, api.Load, api.Store}, noAccesses...)
}

// modes: every setting of User, Sum and Mxr.
func modes() []api.Mode {
	var l []api.Mode
	for i := range 8 {
		l = append(l, api.Mode{User: i&4 != 0, Sum: i&2 != 0, Mxr: i&1 != 0})
	}
	return l
}

// flagged is an entry with those flags that a number from 0 to 255 has as bits.
func flagged(flags int) api.Pte {
	var b [8]bool
	for i := range b {
		b[i] = flags%2 == 1
		flags /= 2
	}
	return api.Pte{V: b[0], R: b[1], W: b[2], X: b[3], U: b[4], G: b[5], A: b[6], D: b[7]}
}

// text is what Text should be of flagged.
func text(flags int) string {
	s := ""
	for i := range letters {
		if flags%2 == 1 {
			s += letters[i : i+1]
		} else {
			s += "-"
		}
		flags /= 2
	}
	return s
}

// numbered are entries with the same flags, and with other numbers.
func numbered(p api.Pte) []api.Pte {
	var l []api.Pte
	for _, rsw := range []int{0, 1, 2, 3, 4, 255, -1, math.MaxInt, math.MinInt} {
		for _, ppn := range []uint64{0, 1, 2, 0x12345, mostPpn, mostPpn + 1, 1 << 63, math.MaxUint64} {
			p.Rsw, p.Ppn = rsw, ppn
			l = append(l, p)
		}
	}
	return l
}

// like: is a text one of those that a pattern tells, in which a dot stands for either sign?
func like(pattern, s string) bool {
	for i := range pattern {
		if pattern[i] != '.' && pattern[i] != s[i] {
			return false
		}
	}
	return true
}

// leave to do something: the access, the modes (of Sum and Mxr those that it needs), and
// the entries.
type leave struct {
	a       api.Access
	m       api.Mode
	pattern string
}

// leaves are all that there are: what none of them tells may not be done.
var leaves = []leave{
	{api.Fetch, api.Mode{User: true}, "v.-xu.a."},
	{api.Fetch, api.Mode{User: true}, "vr.xu.a."},
	{api.Load, api.Mode{User: true}, "vr..u.a."},
	{api.Load, api.Mode{User: true, Mxr: true}, "v.-xu.a."},
	{api.Store, api.Mode{User: true}, "vrw.u.ad"},
	{api.Fetch, api.Mode{}, "v.-x-.a."},
	{api.Fetch, api.Mode{}, "vr.x-.a."},
	{api.Load, api.Mode{}, "vr..-.a."},
	{api.Load, api.Mode{Sum: true}, "vr....a."},
	{api.Load, api.Mode{Mxr: true}, "v.-x-.a."},
	{api.Load, api.Mode{Mxr: true, Sum: true}, "v.-x..a."},
	{api.Store, api.Mode{}, "vrw.-.ad"},
	{api.Store, api.Mode{Sum: true}, "vrw...ad"},
}

// check is what Check should be.
func check(flags int, a api.Access, m api.Mode) bool {
	for _, l := range leaves {
		mode := l.m.User == m.User && (m.Sum || !l.m.Sum) && (m.Mxr || !l.m.Mxr)
		if mode && l.a == a && like(l.pattern, text(flags)) {
			return true
		}
	}
	return false
}

// P9.1: what each word of the promise says, one entry at a time.
func TestCheck(t *testing.T) {
	const no, yes = false, true
	user, kernel := api.Mode{User: true}, api.Mode{}
	for _, x := range []struct {
		p  api.Pte
		a  api.Access
		m  api.Mode
		ok bool
	}{
		// A user, U set.
		{api.Pte{V: true, X: true, U: true, A: true}, api.Fetch, user, yes},
		{api.Pte{V: true, R: true, U: true, A: true}, api.Fetch, user, no},
		{api.Pte{V: true, R: true, U: true, A: true}, api.Load, user, yes},
		{api.Pte{V: true, X: true, U: true, A: true}, api.Load, user, no},
		{api.Pte{V: true, X: true, U: true, A: true}, api.Load, api.Mode{User: true, Mxr: true}, yes},
		{api.Pte{V: true, X: true, U: true, A: true}, api.Load, api.Mode{User: true, Sum: true}, no},
		{api.Pte{V: true, R: true, W: true, U: true, A: true, D: true}, api.Store, user, yes},
		{api.Pte{V: true, R: true, X: true, U: true, A: true, D: true}, api.Store, user, no},
		{api.Pte{V: true, R: true, X: true, U: true, A: true, D: true}, api.Store, api.Mode{User: true, Sum: true, Mxr: true}, no},
		// A user, U not set: Sum is no help.
		{api.Pte{V: true, X: true, A: true}, api.Fetch, user, no},
		{api.Pte{V: true, R: true, A: true}, api.Load, user, no},
		{api.Pte{V: true, R: true, W: true, A: true, D: true}, api.Store, user, no},
		{api.Pte{V: true, R: true, W: true, X: true, A: true, D: true}, api.Fetch, api.Mode{User: true, Sum: true, Mxr: true}, no},
		{api.Pte{V: true, R: true, W: true, X: true, A: true, D: true}, api.Load, api.Mode{User: true, Sum: true, Mxr: true}, no},
		{api.Pte{V: true, R: true, W: true, X: true, A: true, D: true}, api.Store, api.Mode{User: true, Sum: true, Mxr: true}, no},
		// The kernel, U not set.
		{api.Pte{V: true, X: true, A: true}, api.Fetch, kernel, yes},
		{api.Pte{V: true, R: true, A: true}, api.Fetch, kernel, no},
		{api.Pte{V: true, R: true, A: true}, api.Load, kernel, yes},
		{api.Pte{V: true, X: true, A: true}, api.Load, kernel, no},
		{api.Pte{V: true, X: true, A: true}, api.Load, api.Mode{Mxr: true}, yes},
		{api.Pte{V: true, R: true, W: true, A: true, D: true}, api.Store, kernel, yes},
		{api.Pte{V: true, R: true, A: true, D: true}, api.Store, kernel, no},
		// The kernel, U set: Sum lets it load and store, and never fetch.
		{api.Pte{V: true, X: true, U: true, A: true}, api.Fetch, kernel, no},
		{api.Pte{V: true, X: true, U: true, A: true}, api.Fetch, api.Mode{Sum: true, Mxr: true}, no},
		{api.Pte{V: true, R: true, U: true, A: true}, api.Load, kernel, no},
		{api.Pte{V: true, R: true, U: true, A: true}, api.Load, api.Mode{Mxr: true}, no},
		{api.Pte{V: true, R: true, U: true, A: true}, api.Load, api.Mode{Sum: true}, yes},
		{api.Pte{V: true, X: true, U: true, A: true}, api.Load, api.Mode{Sum: true}, no},
		{api.Pte{V: true, X: true, U: true, A: true}, api.Load, api.Mode{Mxr: true}, no},
		{api.Pte{V: true, X: true, U: true, A: true}, api.Load, api.Mode{Sum: true, Mxr: true}, yes},
		{api.Pte{V: true, R: true, W: true, U: true, A: true, D: true}, api.Store, kernel, no},
		{api.Pte{V: true, R: true, W: true, U: true, A: true, D: true}, api.Store, api.Mode{Sum: true}, yes},
		{api.Pte{V: true, R: true, X: true, U: true, A: true, D: true}, api.Store, api.Mode{Sum: true, Mxr: true}, no},
		// A not set, D not set.
		{api.Pte{V: true, R: true, W: true, X: true, U: true, D: true}, api.Fetch, user, no},
		{api.Pte{V: true, R: true, W: true, X: true, U: true, D: true}, api.Load, user, no},
		{api.Pte{V: true, R: true, W: true, X: true, U: true, D: true}, api.Store, user, no},
		{api.Pte{V: true, R: true, W: true, X: true, U: true, A: true}, api.Fetch, user, yes},
		{api.Pte{V: true, R: true, W: true, X: true, U: true, A: true}, api.Load, user, yes},
		{api.Pte{V: true, R: true, W: true, X: true, U: true, A: true}, api.Store, user, no},
		{api.Pte{V: true, R: true, W: true, X: true, D: true}, api.Load, kernel, no},
		{api.Pte{V: true, R: true, W: true, X: true, A: true}, api.Load, kernel, yes},
		{api.Pte{V: true, R: true, W: true, X: true, A: true}, api.Store, kernel, no},
		// Not right, no leaf.
		{api.Pte{}, api.Load, user, no},
		{api.Pte{R: true, W: true, X: true, U: true, A: true, D: true}, api.Fetch, user, no},
		{api.Pte{R: true, W: true, X: true, U: true, A: true, D: true}, api.Load, user, no},
		{api.Pte{R: true, W: true, X: true, U: true, A: true, D: true}, api.Store, user, no},
		{api.Pte{V: true, W: true, X: true, U: true, A: true, D: true}, api.Fetch, user, no},
		{api.Pte{V: true, W: true, X: true, U: true, A: true, D: true}, api.Load, api.Mode{User: true, Mxr: true}, no},
		{api.Pte{V: true, W: true, X: true, U: true, A: true, D: true}, api.Store, user, no},
		{api.Pte{V: true, W: true, U: true, A: true, D: true}, api.Store, user, no},
		{api.Pte{V: true, U: true, A: true, D: true}, api.Load, user, no},
		{api.Pte{V: true, U: true, A: true, D: true}, api.Load, api.Mode{User: true, Mxr: true}, no},
		{api.Pte{V: true, A: true, D: true}, api.Store, kernel, no},
	} {
		if perm.Check(x.p, x.a, x.m) != x.ok {
			t.Errorf("Check(%s, %d, %+v): %v", perm.Text(x.p), x.a, x.m, !x.ok)
		}
	}
}

// P9.1: every setting of the flags by every mode and access; Rsw and Ppn change nothing.
func TestCheckAll(t *testing.T) {
	for flags := range 256 {
		for _, p := range numbered(flagged(flags)) {
			for _, m := range modes() {
				for _, a := range []api.Access{api.Fetch, api.Load, api.Store} {
					if ok := perm.Check(p, a, m); ok != check(flags, a, m) {
						t.Fatalf("Check(%+v, %d, %+v): %v", p, a, m, ok)
					}
				}
			}
		}
	}
}

// P9.1: G changes nothing.
func TestCheckGlobal(t *testing.T) {
	for flags := range 256 {
		p := flagged(flags)
		other := p
		other.G = !p.G
		for _, m := range modes() {
			for _, a := range accesses() {
				if perm.Check(p, a, m) != perm.Check(other, a, m) {
					t.Fatalf("Check(%+v, %d, %+v): unlike with G %v", p, a, m, other.G)
				}
			}
		}
	}
}

// P9.1: what is no access may not be done with any page.
func TestCheckNoAccess(t *testing.T) {
	for _, a := range noAccesses {
		for flags := range 256 {
			p := flagged(flags)
			for _, m := range modes() {
				if perm.Check(p, a, m) {
					t.Fatalf("Check(%+v, %d, %+v)", p, a, m)
				}
			}
		}
	}
}

// P9.2: the causes of each access, as the numbers that a trap has.
func TestCauses(t *testing.T) {
	for _, x := range []struct {
		a                  api.Access
		page, bound, align api.Cause
	}{
		{api.Fetch, 12, 1, 0},
		{api.Load, 13, 5, 4},
		{api.Store, 15, 7, 6},
	} {
		if c := perm.Page(x.a); c != x.page {
			t.Errorf("Page(%d): %d, not %d", x.a, c, x.page)
		}
		if c := perm.Bound(x.a); c != x.bound {
			t.Errorf("Bound(%d): %d, not %d", x.a, c, x.bound)
		}
		if c := perm.Align(x.a); c != x.align {
			t.Errorf("Align(%d): %d, not %d", x.a, c, x.align)
		}
	}
}

// P9.2: what is no access has no cause.
func TestNoCauses(t *testing.T) {
	for _, a := range noAccesses {
		if c := perm.Page(a); c != api.NoCause {
			t.Errorf("Page(%d): %d", a, c)
		}
		if c := perm.Bound(a); c != api.NoCause {
			t.Errorf("Bound(%d): %d", a, c)
		}
		if c := perm.Align(a); c != api.NoCause {
			t.Errorf("Align(%d): %d", a, c)
		}
	}
}

// written are entries and their texts, the chapter's example first, then each flag
// alone and each flag missing.
var written = []struct {
	p api.Pte
	s string
}{
	{api.Pte{V: true, R: true, A: true}, "vr----a-"},
	{api.Pte{}, "--------"},
	{api.Pte{V: true}, "v-------"},
	{api.Pte{R: true}, "-r------"},
	{api.Pte{W: true}, "--w-----"},
	{api.Pte{X: true}, "---x----"},
	{api.Pte{U: true}, "----u---"},
	{api.Pte{G: true}, "-----g--"},
	{api.Pte{A: true}, "------a-"},
	{api.Pte{D: true}, "-------d"},
	{api.Pte{R: true, W: true, X: true, U: true, G: true, A: true, D: true}, "-rwxugad"},
	{api.Pte{V: true, W: true, X: true, U: true, G: true, A: true, D: true}, "v-wxugad"},
	{api.Pte{V: true, R: true, X: true, U: true, G: true, A: true, D: true}, "vr-xugad"},
	{api.Pte{V: true, R: true, W: true, U: true, G: true, A: true, D: true}, "vrw-ugad"},
	{api.Pte{V: true, R: true, W: true, X: true, G: true, A: true, D: true}, "vrwx-gad"},
	{api.Pte{V: true, R: true, W: true, X: true, U: true, A: true, D: true}, "vrwxu-ad"},
	{api.Pte{V: true, R: true, W: true, X: true, U: true, G: true, D: true}, "vrwxug-d"},
	{api.Pte{V: true, R: true, W: true, X: true, U: true, G: true, A: true}, "vrwxuga-"},
	{api.Pte{V: true, R: true, W: true, X: true, U: true, G: true, A: true, D: true}, "vrwxugad"},
	{api.Pte{V: true, R: true, W: true, U: true, A: true, D: true}, "vrw-u-ad"},
	{api.Pte{V: true, X: true, G: true, D: true}, "v--x-g-d"},
}

// P9.3: entries and texts, written out.
func TestWritten(t *testing.T) {
	for _, x := range written {
		if s := perm.Text(x.p); s != x.s {
			t.Errorf("Text(%+v): %q, not %q", x.p, s, x.s)
		}
		if p, ok := perm.Flags(x.s); p != x.p || !ok {
			t.Errorf("Flags(%q): %+v, %v", x.s, p, ok)
		}
	}
}

// P9.3: Text of every setting of the flags, whatever Rsw and Ppn are.
func TestTextAll(t *testing.T) {
	for flags := range 256 {
		for _, p := range numbered(flagged(flags)) {
			if s := perm.Text(p); s != text(flags) {
				t.Fatalf("Text(%+v): %q, not %q", p, s, text(flags))
			}
		}
	}
}

// P9.3: Flags of each of those texts; Flags of Text's answers is the entry with the
// numbers 0, and Text of Flags' entries is the text.
func TestFlagsAll(t *testing.T) {
	for flags := range 256 {
		want := flagged(flags)
		p, ok := perm.Flags(text(flags))
		if p != want || !ok {
			t.Fatalf("Flags(%q): %+v, %v", text(flags), p, ok)
		}
		if s := perm.Text(p); s != text(flags) {
			t.Fatalf("Text of Flags(%q): %q", text(flags), s)
		}
		for _, e := range numbered(want) {
			if p, ok := perm.Flags(perm.Text(e)); p != want || !ok {
				t.Fatalf("Flags of Text(%+v): %+v, %v", e, p, ok)
			}
		}
	}
}

// none tells of a text that there is no entry of it.
func none(t *testing.T, s string) {
	t.Helper()
	if p, ok := perm.Flags(s); ok || p != (api.Pte{}) {
		t.Errorf("Flags(%.40q), %d bytes: %+v, %v", s, len(s), p, ok)
	}
}

// P9.3: texts that are too short or too long.
func TestFlagsLength(t *testing.T) {
	none(t, "")
	for flags := range 256 {
		s := text(flags)
		for n := range s {
			none(t, s[:n])
			none(t, s[n+1:])
			none(t, s[:n]+s[n+1:])
			none(t, s[:n]+"-"+s[n:])
		}
		for _, more := range []string{"-", "v", "d", " ", "\n", "\x00", "--", s, s + s} {
			none(t, s+more)
			none(t, more+s)
		}
	}
	for _, n := range []int{16, 64, 256, 264, 65536, 65544, 1 << 20} {
		none(t, strings.Repeat("-", n))
		none(t, strings.Repeat(letters, n/8))
		none(t, letters+strings.Repeat("\x00", n-8))
	}
}

// P9.3: each place with each byte: its letter and the - alone are right, so capital
// letters, letters of other places and what is no letter aren't.
func TestFlagsBytes(t *testing.T) {
	for flags := range 256 {
		for at := range letters {
			for b := range 256 {
				if b == '-' || b == int(letters[at]) {
					continue
				}
				s := []byte(text(flags))
				s[at] = byte(b)
				none(t, string(s))
			}
		}
	}
}

// P9.3: at each place its letter, the - or another place's letter, together in all ways.
func TestFlagsPlaces(t *testing.T) {
	for mix := range 6561 {
		var s [8]byte
		wrong := false
		for i, rest := 0, mix; i < len(s); i, rest = i+1, rest/3 {
			s[i] = [3]byte{'-', letters[i], letters[(i+1+mix%7)%8]}[rest%3]
			wrong = wrong || rest%3 == 2
		}
		if wrong {
			none(t, string(s[:]))
		} else if p, ok := perm.Flags(string(s[:])); !ok || perm.Text(p) != string(s[:]) {
			t.Errorf("Flags(%q): %+v, %v", s[:], p, ok)
		}
	}
}

// P9.3: letters in another's place.
func TestFlagsOrder(t *testing.T) {
	for i := range letters {
		for j := range letters {
			if i == j {
				continue
			}
			s := []byte(letters)
			s[i], s[j] = s[j], s[i]
			none(t, string(s))
			alone := []byte("--------")
			alone[j] = letters[i]
			none(t, string(alone))
		}
		if i > 0 {
			none(t, letters[i:]+letters[:i])
		}
	}
	for _, s := range []string{"daguxwrv", "rwxvugad", "rvwxugad", "vrwxugda", "vvvvvvvv", "dddddddd"} {
		none(t, s)
	}
}

// P9.3: capital letters.
func TestFlagsCapitals(t *testing.T) {
	for flags := 1; flags < 256; flags++ {
		none(t, strings.ToUpper(text(flags)))
	}
	for _, s := range []string{"V-------", "vrwxugaD", "VRWXUGAD", "vR------", "Vrwxugad"} {
		none(t, s)
	}
}

// P9.3: signs of more than one byte, and bytes that are no sign, in texts of eight bytes and of eight signs.
func TestFlagsSigns(t *testing.T) {
	for _, s := range []string{
		"vrwxug\u00e4", "\u00e4wxugad", "vr\u00e4xug\u00e4", "\u00e4\u00e4\u00e4\u00e4", "vrwxu\u20ac", "\u2010-----", "-----\u2212", "\U0001f512----", "\U0001f512\U0001f512",
		"\u00e4\u00e4\u00e4\u00e4\u00e4\u00e4\u00e4\u00e4", "vrwxuga\u0501", "\uff56rwxugad", "\uff56\uff52\uff57\uff58\uff55\uff47\uff41\uff44",
		"\u2010\u2010\u2010\u2010\u2010\u2010\u2010\u2010", "\u2212-------", "-------\u2013", "\u0432rwxugad", "vrw\u0445ugad", "vrwxug\u0430d",
		"v\u0301-------", "\ufeffvrwxugad", "\ufeff-----", "-------\u00ad", "------\u00ad", "\u00advrwxuga", "\u0176-------", "\u012d-------",
		"\xff-------", "-------\xff", "\xf6\xf2\xf7\xf8\xf5\xe7\xe1\xe4", "\xad\xad\xad\xad\xad\xad\xad\xad", "vrwxug\xc3\x00", "\x00\x00\x00\x00\x00\x00\x00\x00", "vrwxuga\x00",
	} {
		none(t, s)
	}
}

// P9.1 to P9.3: nothing is kept from call to call.
func TestNothingKept(t *testing.T) {
	for range 3 {
		for flags := range 256 {
			none(t, "vrwxugaX")
			if p, ok := perm.Flags(text(flags)); p != flagged(flags) || !ok {
				t.Fatalf("Flags(%q): %+v, %v", text(flags), p, ok)
			}
			for _, m := range modes() {
				for _, a := range accesses() {
					if perm.Check(flagged(flags), a, m) != check(flags, a, m) {
						t.Fatalf("Check(%s, %d, %+v)", text(flags), a, m)
					}
				}
			}
		}
	}
}
