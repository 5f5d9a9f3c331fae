package label

import (
	"regexp"
	"slices"
	"strings"
	"testing"
	"unsafe"

	"gaugehouse/api"
)

// stir makes unlike numbers from like ones, the same in each run.
func stir(u uint64) uint64 {
	u = (u + 1) * 0x9e3779b97f4a7c15
	u = (u ^ u>>29) * 0xbf58476d1ce4e5b9
	return u ^ u>>32
}

// labels are made of names and values, one behind the other.
func labels(s ...string) []api.Label {
	var l []api.Label
	for i := 0; i < len(s); i += 2 {
		l = append(l, api.Label{Name: s[i], Value: s[i+1]})
	}
	return l
}

func match(kind int, name, value string) api.Match {
	return api.Match{Kind: kind, Name: name, Value: value}
}

// rising are as many labels as asked for, at most 26, with rising names.
func rising(n int) []api.Label {
	var l []api.Label
	for i := range n {
		l = append(l, api.Label{Name: string(rune('a' + i)), Value: "x"})
	}
	return l
}

// manyValues have all bytes, all that is told by two bytes, and the longest ones among them.
func manyValues() []string {
	l := []string{"", "x", "y,}", "{a=\"b\"}", "\"", "\\", "\n", "n", "\\n", "\\\"", "\"\\\n", "\\\\n", "é", "\xff\xfe", " ", "\x00",
		strings.Repeat("v", 40), strings.Repeat("\"", 40), strings.Repeat("\\", 40), strings.Repeat("\n", 40), strings.Repeat("\\n", 20)}
	for c := range 256 {
		l = append(l, string([]byte{byte(c)}), string([]byte{'n', byte(c), '"'}))
	}
	for i := range 200 {
		var b []byte
		for k := range i % 41 {
			b = append(b, "\"\\\nna,}=\xff{"[stir(uint64(1000*i+k))>>20%10])
		}
		l = append(l, string(b))
	}
	return l
}

// manyLabels have no error.
func manyLabels() [][]api.Label {
	l := [][]api.Label{nil, {}, rising(10), labels("_", "", "a", "", "a0", "", "a_", "", "aa", "")}
	for i, v := range manyValues() {
		l = append(l, labels("a", v), labels("_9", v, "b", "x", "c", v))
		var x []api.Label
		for k := range i % 11 {
			x = append(x, api.Label{Name: "name_" + string(rune('0'+k)), Value: manyValues()[(7*i+k)%len(manyValues())]})
		}
		l = append(l, x)
	}
	return l
}

// manyMatches have no error: those of manyLabels, with all kinds, in any order, some of them twice.
func manyMatches() [][]api.Match {
	var all [][]api.Match
	for i, l := range manyLabels() {
		var m []api.Match
		for k, x := range l {
			m = append(m, match(1+(i+k)%4, x.Name, x.Value))
		}
		slices.Reverse(m)
		if 2*len(m) <= 10 {
			m = slices.Concat(m, m)
		}
		all = append(all, m)
	}
	return all
}

// longest is the longest Text that there is.
func longest() []api.Label {
	var l []api.Label
	for i := range 10 {
		l = append(l, api.Label{Name: strings.Repeat("z", 19) + string(rune('0'+i)), Value: strings.Repeat("\n", 40)})
	}
	return l
}

// spoilt are texts that are s, but for one byte that is away, is there beside, or is another one.
func spoilt(s string) []string {
	var l []string
	for i := range len(s) + 1 {
		front, back := s[:i], s[i:]
		for _, c := range []string{"{", "}", "\"", "\\", "\n", "n", "=", "!", "^", "~", ",", " ", "a", "A", "0", "_", "\xff", "\x00"} {
			l = append(l, front+c+back)
			if back != "" {
				l = append(l, front+c+back[1:])
			}
		}
		if back != "" {
			l = append(l, front+back[1:], front)
		}
	}
	return l
}

// The form of a text, told once more.
const (
	nameForm   = `[a-z_][a-z0-9_]{0,19}`
	quotedForm = `"(?:[^"\\\n]|\\["\\n])*"`
)

var (
	labelsForm  = regexp.MustCompile(`\A\{(?:` + nameForm + `=` + quotedForm + `(?:,` + nameForm + `=` + quotedForm + `){0,9})?\}\z`)
	matchesForm = regexp.MustCompile(`\A\{(?:` + nameForm + `(?:=|!=|=\^|=~)` + quotedForm + `(?:,` + nameForm + `(?:=|!=|=\^|=~)` + quotedForm + `){0,9})?\}\z`)
	termForm    = regexp.MustCompile(`(` + nameForm + `)(!=|=\^|=~|=)(` + quotedForm + `)`)
)

// modelReadMatch reads by forms.
func modelReadMatch(s string) ([]api.Match, bool) {
	if !matchesForm.MatchString(s) {
		return nil, false
	}
	var m []api.Match
	for _, part := range termForm.FindAllStringSubmatch(s, -1) {
		value := strings.NewReplacer(`\\`, `\`, `\"`, `"`, `\n`, "\n").Replace(part[3][1 : len(part[3])-1])
		if len(value) > 40 {
			return nil, false
		}
		kind := 1 + slices.Index([]string{"=", "!=", "=^", "=~"}, part[2])
		m = append(m, match(kind, part[1], value))
	}
	return m, true
}

func modelRead(s string) ([]api.Label, bool) {
	m, ok := modelReadMatch(s)
	if !ok || !labelsForm.MatchString(s) {
		return nil, false
	}
	var l []api.Label
	for _, x := range m {
		l = append(l, api.Label{Name: x.Name, Value: x.Value})
	}
	for i := 1; i < len(l); i++ {
		if strings.Compare(l[i-1].Name, l[i].Name) != -1 {
			return nil, false
		}
	}
	return l, true
}

// modelFits looks by a map, and for a value in another one place by place.
func modelFits(l []api.Label, m []api.Match) bool {
	values := map[string]string{}
	for _, x := range l {
		values[x.Name] = x.Value
	}
	fits := true
	for _, x := range m {
		v, places := values[x.Name], []int{}
		for at := 0; at+len(x.Value) <= len(v); at++ {
			if v[at:at+len(x.Value)] == x.Value {
				places = append(places, at)
			}
		}
		begins := len(places) > 0 && places[0] == 0
		is := begins && len(v) == len(x.Value)
		fits = fits && []bool{is, !is, begins, len(places) > 0}[x.Kind-1]
	}
	return fits
}

// shares tells whether two texts have a byte of memory together.
func shares(a, b string) bool {
	if a == "" || b == "" {
		return false
	}
	p, q := uintptr(unsafe.Pointer(unsafe.StringData(a))), uintptr(unsafe.Pointer(unsafe.StringData(b)))
	return p < q+uintptr(len(b)) && q < p+uintptr(len(a))
}

// theirs are names that are NAMEs, and others are not.
func theirs() (names, others []string) {
	const rest = "abcdefghijklmnopqrstuvwxyz_"
	for c := range 256 {
		s := string([]byte{byte(c)})
		front := strings.Contains(rest, s)
		for _, x := range []struct {
			name string
			is   bool
		}{{s, front}, {s + "a", front}, {"a" + s, front || '0' <= c && c <= '9'}, {"a" + s + "b", front || '0' <= c && c <= '9'}} {
			if x.is {
				names = append(names, x.name)
			} else {
				others = append(others, x.name)
			}
		}
	}
	names = append(names, "_0123456789", "abcdefghijklmnopqrst", "uvwxyz", strings.Repeat("_", 20), "z"+strings.Repeat("9", 19))
	others = append(others, "", "0", "9a", strings.Repeat("a", 21), strings.Repeat("a", 300), "é", "a b", "a\n")
	return names, others
}

func TestP60ANameIsOfItsBytes(t *testing.T) {
	names, others := theirs()
	for _, name := range names {
		if e := Check(labels(name, "x")); e != api.OK {
			t.Errorf("Check of the name %q: %d", name, e)
		}
		if l, e := Read("{" + name + "=\"x\"}"); e != api.OK || !slices.Equal(l, labels(name, "x")) {
			t.Errorf("Read of the name %q: %v, %d", name, l, e)
		}
	}
	for _, name := range others {
		if e := Check(labels(name, "x")); e != api.ErrForm {
			t.Errorf("Check of the name %q: %d", name, e)
		}
		if s, e := Text(labels(name, "x")); s != "" || e != api.ErrForm {
			t.Errorf("Text of the name %q: %q, %d", name, s, e)
		}
		if l, e := Read("{" + name + "=\"x\"}"); l != nil || e != api.ErrForm {
			t.Errorf("Read of the name %q: %v, %d", name, l, e)
		}
	}
}

func TestP60CheckTellsTheFirstError(t *testing.T) {
	long, most := strings.Repeat("v", 41), strings.Repeat("v", 40)
	for i, c := range []struct {
		l    []api.Label
		want api.Errno
	}{
		{nil, api.OK}, {[]api.Label{}, api.OK}, {rising(10), api.OK}, {rising(11), api.ErrLarge},
		{make([]api.Label, 10), api.ErrForm}, {make([]api.Label, 11), api.ErrLarge}, {make([]api.Label, 5000), api.ErrLarge},
		{labels("a", most), api.OK}, {labels("a", long), api.ErrLarge}, {labels("a", strings.Repeat("é", 21)), api.ErrLarge},
		{labels("a", "", "b", ""), api.OK}, {labels("b", "", "a", ""), api.ErrOrder}, {labels("a", "x", "a", "y"), api.ErrOrder},
		{labels("a", "", "aa", "", "ab", "", "b", ""), api.OK}, {labels("aa", "", "a", ""), api.ErrOrder},
		{labels("a", "", "a0", "", "a_", "", "aa", ""), api.OK}, {labels("a_", "", "a0", ""), api.ErrOrder},
		{labels("a", "", "_", ""), api.ErrOrder}, {labels("_", "", "a", ""), api.OK}, {labels("a9", "", "a10", ""), api.ErrOrder},
		{labels("b", "", "c", "", "a", ""), api.ErrOrder}, {labels("a", "", "c", "", "b", ""), api.ErrOrder},
		// of one label
		{labels("A", long), api.ErrForm}, {labels("b", "", "A", ""), api.ErrForm}, {labels("b", "", "A", long), api.ErrForm},
		{labels("b", "", "a", long), api.ErrOrder}, {labels("b", "", "b", long), api.ErrOrder},
		// of two
		{labels("a", long, "B", ""), api.ErrLarge}, {labels("b", long, "a", ""), api.ErrLarge}, {labels("A", "", "b", long), api.ErrForm},
		{labels("c", "", "b", "", "A", ""), api.ErrOrder}, {labels("c", "", "b", "", "d", long), api.ErrOrder},
		{append(rising(9), api.Label{Name: "Z"}), api.ErrForm}, {append(rising(9), api.Label{Name: "z", Value: long}), api.ErrLarge},
	} {
		if e := Check(c.l); e != c.want {
			t.Errorf("%d: Check = %d, want %d", i, e, c.want)
		}
		if s, e := Text(c.l); e != c.want || (s == "") != (e != api.OK) {
			t.Errorf("%d: Text = %q, %d, want %d", i, s, e, c.want)
		}
		if ok, e := Fits(c.l, nil); e != c.want || ok != (e == api.OK) {
			t.Errorf("%d: Fits = %v, %d, want %d", i, ok, e, c.want)
		}
	}
}

func TestP60TextIsToTheByte(t *testing.T) {
	for _, c := range []struct {
		l    []api.Label
		want string
	}{
		{nil, `{}`}, {labels("a", ""), `{a=""}`}, {labels("a", "x"), `{a="x"}`},
		{labels("_a1", "x", "b", "y,}"), `{_a1="x",b="y,}"}`}, {labels("a", "=", "b", "", "c", "{"), `{a="=",b="",c="{"}`},
		{labels("a", `"`), `{a="\""}`}, {labels("a", `\`), `{a="\\"}`}, {labels("a", "\n"), `{a="\n"}`},
		{labels("a", `\n`), `{a="\\n"}`}, {labels("a", "n"), `{a="n"}`}, {labels("a", "\r\t\x00\xff é"), "{a=\"\r\t\x00\xff é\"}"},
		{labels("a", "x\"y\\z\n", "b", "\n\n"), `{a="x\"y\\z\n",b="\n\n"}`},
	} {
		if s, e := Text(c.l); s != c.want || e != api.OK {
			t.Errorf("Text(%q) = %s, %d, want %s", c.l, s, e, c.want)
		}
		if l, e := Read(c.want); !slices.Equal(l, c.l) || e != api.OK {
			t.Errorf("Read(%s) = %q, %d, want %q", c.want, l, e, c.l)
		}
	}
	if s, e := Text(longest()); len(s) != 1+10*(20+1+82)+9+1 || e != api.OK {
		t.Errorf("the longest text has %d bytes, %d", len(s), e)
	}
}

func TestP60ReadUndoesText(t *testing.T) {
	from := map[string][]api.Label{}
	for _, l := range append(manyLabels(), longest()) {
		s, e := Text(l)
		if e != api.OK {
			t.Fatalf("Text(%q): %d", l, e)
		}
		if other, is := from[s]; is && !slices.Equal(other, l) {
			t.Fatalf("%q and %q have the text %s", other, l, s)
		}
		from[s] = l
		if back, e := Read(s); !slices.Equal(back, l) || e != api.OK {
			t.Fatalf("Read(%s) = %q, %d, want %q", s, back, e, l)
		}
	}
}

func checkRead(t *testing.T, s string) {
	t.Helper()
	l, e := Read(s)
	want, ok := modelRead(s)
	if ok != (e == api.OK) || !slices.Equal(l, want) || !ok && (l != nil || e != api.ErrForm) {
		t.Fatalf("Read(%q) = %q, %d, want %q, %v", s, l, e, want, ok)
	}
	if !ok {
		return
	}
	if back, e := Text(l); back != s || e != api.OK {
		t.Fatalf("Text(Read(%q)) = %q, %d", s, back, e)
	}
}

func checkReadMatch(t *testing.T, s string) {
	t.Helper()
	m, e := ReadMatch(s)
	want, ok := modelReadMatch(s)
	if ok != (e == api.OK) || !slices.Equal(m, want) || !ok && (m != nil || e != api.ErrForm) {
		t.Fatalf("ReadMatch(%q) = %v, %d, want %v, %v", s, m, e, want, ok)
	}
	if !ok {
		return
	}
	if back, e := MatchText(m); back != s || e != api.OK {
		t.Fatalf("MatchText(ReadMatch(%q)) = %q, %d", s, back, e)
	}
}

func TestP60AndP61WhatIsSpoiltIsReadAsTheModel(t *testing.T) {
	for _, s := range []string{
		`{}`, `{a="x"}`, `{a="",b=""}`, `{a="\"",a0="\\\\",b="\n\\n"}`, `{a!="x",a=^"y",a=~"z",a="x"}`, `{b=~"\n",a!="~",_=^"^"}`,
		`{` + strings.Repeat("a", 19) + `="x"}`, `{` + strings.Repeat("a", 20) + `="` + strings.Repeat("v", 40) + `"}`,
		`{a="` + strings.Repeat(`\"`, 39) + `"}`, `{a="` + strings.Repeat(`\n`, 40) + `"}`,
		`{a="1",b="2",c="3",d="4",e="5",f="6",g="7",h="8",i="9",j="0"}`, `{a="1",b="2",c="3",d="4",e="5",f="6",g="7",h="8",i="9"}`,
	} {
		checkRead(t, s)
		checkReadMatch(t, s)
		for _, x := range spoilt(s) {
			checkRead(t, x)
			checkReadMatch(t, x)
		}
	}
}

// All texts of few of the bytes that mean something.
func TestP60AndP61ShortTextsAreReadAsTheModel(t *testing.T) {
	const of = "{}a=\"\\n,~"
	var each func(s string, more int)
	each = func(s string, more int) {
		checkRead(t, "{a=\""+s)
		checkReadMatch(t, "{a"+s)
		checkRead(t, s)
		checkReadMatch(t, s)
		if more == 0 {
			return
		}
		for i := range len(of) {
			each(s+of[i:i+1], more-1)
		}
	}
	each("", 5)
}

func TestP60ReadRefuses(t *testing.T) {
	eleven := "{"
	for i := range 11 {
		eleven += string(rune('a'+i)) + `="x",`
	}
	eleven = strings.TrimSuffix(eleven, ",") + "}"
	for _, s := range []string{
		"", "{", "}", "{}}", "{{}", " {}", "{} ", "{ }", "{}\n", "{,}", `{a="x",}`, `{,a="x"}`, `{a="x",,b="x"}`, `{a="x";b="y"}`,
		`{b="x",a="x"}`, `{a="x",a="x"}`, `{a="x",a="y"}`, `{a!="x"}`, `{a=^"x"}`, `{a=~"x"}`, `{a=="x"}`, `{a="x",b!="x"}`,
		`{a}`, `{a=}`, `{a=x}`, `{a='x'}`, `{a "x"}`, `{a = "x"}`, `{a="x", b="x"}`, `{="x"}`, `{"x"}`,
		`{a="\q"}`, `{a="\N"}`, `{a="\t"}`, `{a="\x"}`, `{a="\`, `{a="\"}`, `{a="\"`, `{a="x`, `{a="x"`, `{a="x"""}`, "{a=\"\n\"}", "{a=\"\\\n\"}",
		`{a="` + strings.Repeat("v", 41) + `"}`, `{a="` + strings.Repeat(`\n`, 41) + `"}`, `{` + strings.Repeat("a", 21) + `="x"}`,
		eleven, `a="x"`, `(a="x")`, `[a="x"]`, `{a="x"}{b="x"}`, `{a="x"}` + "\x00",
	} {
		if l, e := Read(s); l != nil || e != api.ErrForm {
			t.Errorf("Read(%q) = %q, %d", s, l, e)
		}
	}
	if m, e := ReadMatch(eleven); m != nil || e != api.ErrForm {
		t.Errorf("ReadMatch(%q) = %v, %d", eleven, m, e)
	}
}

func TestP61FitsByItsKind(t *testing.T) {
	l := labels("a", "xyz", "b", "", "c", "\"\\\n\xff")
	for i, c := range []struct {
		m    api.Match
		want bool
	}{
		{match(api.MIs, "a", "xyz"), true}, {match(api.MIs, "a", "xy"), false}, {match(api.MIs, "a", "xyzz"), false},
		{match(api.MIs, "a", ""), false}, {match(api.MIs, "a", "XYZ"), false}, {match(api.MIs, "b", ""), true},
		{match(api.MIs, "b", "x"), false}, {match(api.MIs, "q", ""), true}, {match(api.MIs, "q", "x"), false},
		{match(api.MIs, "c", "\"\\\n\xff"), true},
		{match(api.MNot, "a", "xyz"), false}, {match(api.MNot, "a", "xy"), true}, {match(api.MNot, "a", ""), true},
		{match(api.MNot, "b", ""), false}, {match(api.MNot, "b", "x"), true}, {match(api.MNot, "q", ""), false}, {match(api.MNot, "q", "x"), true},
		{match(api.MFront, "a", ""), true}, {match(api.MFront, "a", "x"), true}, {match(api.MFront, "a", "xyz"), true},
		{match(api.MFront, "a", "xyzz"), false}, {match(api.MFront, "a", "yz"), false}, {match(api.MFront, "b", ""), true},
		{match(api.MFront, "b", "x"), false}, {match(api.MFront, "q", ""), true}, {match(api.MFront, "q", "x"), false},
		{match(api.MHas, "a", ""), true}, {match(api.MHas, "a", "x"), true}, {match(api.MHas, "a", "y"), true}, {match(api.MHas, "a", "z"), true},
		{match(api.MHas, "a", "yz"), true}, {match(api.MHas, "a", "xyz"), true}, {match(api.MHas, "a", "xz"), false}, {match(api.MHas, "a", "xyzz"), false},
		{match(api.MHas, "b", ""), true}, {match(api.MHas, "b", "x"), false}, {match(api.MHas, "q", ""), true}, {match(api.MHas, "q", "x"), false},
		{match(api.MHas, "c", "\n"), true}, {match(api.MHas, "c", "\xff"), true}, {match(api.MHas, "c", "\xfe"), false},
	} {
		if ok, e := Fits(l, []api.Match{c.m}); ok != c.want || e != api.OK {
			t.Errorf("%d: %v: %v, %d", i, c.m, ok, e)
		}
	}
}

func TestP61FitsAll(t *testing.T) {
	fit, unfit := match(api.MIs, "a", "x"), match(api.MNot, "a", "x")
	l := labels("a", "x", "b", "y")
	for i, c := range []struct {
		m    []api.Match
		want bool
	}{
		{nil, true}, {[]api.Match{}, true}, {[]api.Match{fit}, true}, {[]api.Match{unfit}, false}, {[]api.Match{fit, fit}, true},
		{[]api.Match{fit, unfit}, false}, {[]api.Match{unfit, fit}, false}, {slices.Repeat([]api.Match{fit}, 10), true},
		{append(slices.Repeat([]api.Match{fit}, 9), unfit), false}, {[]api.Match{match(api.MIs, "b", "y"), fit, match(api.MIs, "q", "")}, true},
	} {
		if ok, e := Fits(l, c.m); ok != c.want || e != api.OK {
			t.Errorf("%d: %v, %d", i, ok, e)
		}
	}
	// the example of the document
	if m, e := ReadMatch(`{b=""}`); e != api.OK {
		t.Error(e)
	} else if ok, e := Fits(labels("a", "x"), m); !ok || e != api.OK {
		t.Error(ok, e)
	}
}

func TestP61FitsIsTheModel(t *testing.T) {
	values := []string{"", "a", "b", "ab", "ba", "aa", "aab", "aba", "baa", "\n", "\xff", "a\x00"}
	for _, v := range values {
		for _, w := range values {
			for kind := 1; kind <= 4; kind++ {
				for _, l := range [][]api.Label{nil, labels("a", v), labels("b", v), labels("a", w, "b", v), labels("a", v, "aa", w, "b", w)} {
					m := []api.Match{match(kind, "a", w), match(1+kind%4, "b", v), match(1+(kind+1)%4, "aa", w)}
					for n := range len(m) + 1 {
						if ok, e := Fits(l, m[:n]); ok != modelFits(l, m[:n]) || e != api.OK {
							t.Fatalf("Fits(%q, %v) = %v, %d", l, m[:n], ok, e)
						}
					}
				}
			}
		}
	}
}

func TestP61FitsTellsTheFirstError(t *testing.T) {
	long := strings.Repeat("v", 41)
	fit, unfit := match(api.MIs, "q", ""), match(api.MNot, "q", "")
	for i, c := range []struct {
		m    []api.Match
		want api.Errno
	}{
		{slices.Repeat([]api.Match{fit}, 10), api.OK}, {slices.Repeat([]api.Match{fit}, 11), api.ErrLarge}, {make([]api.Match, 11), api.ErrLarge},
		{make([]api.Match, 10), api.ErrArg}, {[]api.Match{match(0, "a", "")}, api.ErrArg}, {[]api.Match{match(5, "a", "")}, api.ErrArg},
		{[]api.Match{match(-1, "a", "")}, api.ErrArg}, {[]api.Match{match(1<<62, "a", "")}, api.ErrArg}, {[]api.Match{match(-1<<63, "a", "")}, api.ErrArg},
		{[]api.Match{match(api.MNot, "q", strings.Repeat("v", 40))}, api.OK}, {[]api.Match{match(api.MNot, "q", long)}, api.ErrLarge},
		// of one match
		{[]api.Match{match(0, "A", long)}, api.ErrArg}, {[]api.Match{match(0, "a", long)}, api.ErrArg}, {[]api.Match{match(api.MHas, "A", long)}, api.ErrForm},
		// of two
		{[]api.Match{match(api.MIs, "q", long), match(0, "a", "")}, api.ErrLarge}, {[]api.Match{match(api.MIs, "Q", ""), match(0, "a", "")}, api.ErrForm},
		{[]api.Match{match(9, "q", ""), match(1, "A", "")}, api.ErrArg}, {append(slices.Repeat([]api.Match{fit}, 9), match(1, "0", "")), api.ErrForm},
		// a match that does not fit hides no error behind it
		{[]api.Match{unfit, match(0, "a", "")}, api.ErrArg}, {[]api.Match{unfit, match(1, "", "")}, api.ErrForm}, {[]api.Match{unfit, match(1, "a", long)}, api.ErrLarge},
	} {
		if ok, e := Fits(labels("a", "x"), c.m); ok != (c.want == api.OK) || e != c.want {
			t.Errorf("%d: Fits = %v, %d, want %d", i, ok, e, c.want)
		}
		if s, e := MatchText(c.m); e != c.want || (s == "") != (e != api.OK) {
			t.Errorf("%d: MatchText = %q, %d, want %d", i, s, e, c.want)
		}
	}
	for i, c := range []struct {
		l    []api.Label
		want api.Errno
	}{{labels("b", "", "a", ""), api.ErrOrder}, {labels("A", ""), api.ErrForm}, {labels("a", long), api.ErrLarge}, {rising(11), api.ErrLarge}} {
		for _, m := range [][]api.Match{nil, {fit}, {unfit}, {match(0, "a", "")}, make([]api.Match, 11)} {
			if ok, e := Fits(c.l, m); ok || e != c.want {
				t.Errorf("%d: Fits = %v, %d, want %d", i, ok, e, c.want)
			}
		}
	}
}

func TestP61AMatchHasAName(t *testing.T) {
	names, others := theirs()
	for kind, sign := range []string{"=", "!=", "=^", "=~"} {
		for _, name := range names {
			m := []api.Match{match(1+kind, name, "x")}
			s, e := MatchText(m)
			if s != "{"+name+sign+"\"x\"}" || e != api.OK {
				t.Errorf("MatchText(%v) = %s, %d", m, s, e)
			}
			if _, e := Fits(nil, m); e != api.OK {
				t.Errorf("Fits of %v: %d", m, e)
			}
		}
		for _, name := range others {
			m := []api.Match{match(1+kind, name, "x")}
			if ok, e := Fits(nil, m); ok || e != api.ErrForm {
				t.Errorf("Fits of %v: %v, %d", m, ok, e)
			}
			if s, e := MatchText(m); s != "" || e != api.ErrForm {
				t.Errorf("MatchText(%v) = %s, %d", m, s, e)
			}
			// a name with a ! behind it, and =, is another match's text
			if name == "a!" && sign == "=" {
				continue
			}
			if back, e := ReadMatch("{" + name + sign + "\"x\"}"); back != nil || e != api.ErrForm {
				t.Errorf("ReadMatch of the name %q: %v, %d", name, back, e)
			}
		}
	}
}

func TestP61MatchTextIsToTheByte(t *testing.T) {
	for _, c := range []struct {
		m    []api.Match
		want string
	}{
		{nil, `{}`}, {[]api.Match{match(api.MIs, "a", "x")}, `{a="x"}`}, {[]api.Match{match(api.MNot, "a", "x")}, `{a!="x"}`},
		{[]api.Match{match(api.MFront, "a", "x")}, `{a=^"x"}`}, {[]api.Match{match(api.MHas, "a", "x")}, `{a=~"x"}`},
		{[]api.Match{match(api.MHas, "b", "="), match(api.MNot, "a", "\""), match(api.MFront, "a", ""), match(api.MIs, "a", "\n\\")}, `{b=~"=",a!="\"",a=^"",a="\n\\"}`},
		{[]api.Match{match(api.MIs, "a", ""), match(api.MIs, "a", "")}, `{a="",a=""}`},
	} {
		if s, e := MatchText(c.m); s != c.want || e != api.OK {
			t.Errorf("MatchText(%v) = %s, %d, want %s", c.m, s, e, c.want)
		}
		if m, e := ReadMatch(c.want); !slices.Equal(m, c.m) || e != api.OK {
			t.Errorf("ReadMatch(%s) = %v, %d, want %v", c.want, m, e, c.m)
		}
	}
}

func TestP61ReadMatchUndoesMatchText(t *testing.T) {
	for _, m := range manyMatches() {
		s, e := MatchText(m)
		if e != api.OK {
			t.Fatalf("MatchText(%v): %d", m, e)
		}
		if back, e := ReadMatch(s); !slices.Equal(back, m) || e != api.OK {
			t.Fatalf("ReadMatch(%s) = %v, %d, want %v", s, back, e, m)
		}
	}
}

func TestP61ReadMatchRefuses(t *testing.T) {
	for _, s := range []string{
		"", "{", "}", "{}}", "{} ", `{a}`, `{a=="x"}`, `{a!"x"}`, `{a~"x"}`, `{a^"x"}`, `{a=!"x"}`, `{a!=="x"}`, `{a!=~"x"}`, `{a=~^"x"}`, `{a=^~"x"}`, `{a~="x"}`,
		`{a=~x}`, `{a=~}`, `{a!="x}`, `{a!="x",}`, `{,a!="x"}`, `{a != "x"}`, `{a= ~"x"}`, `{a!="\q"}`, "{a!=\"\n\"}", `{!="x"}`, `{A!="x"}`, `{0!="x"}`,
		`{a=~"` + strings.Repeat("v", 41) + `"}`, `{` + strings.Repeat(`a!="x",`, 10) + `a="x"}`,
	} {
		if m, e := ReadMatch(s); m != nil || e != api.ErrForm {
			t.Errorf("ReadMatch(%q) = %v, %d", s, m, e)
		}
	}
}

func TestP1LongTextsHaveAnAnswer(t *testing.T) {
	const long = 1 << 22
	for _, s := range []string{
		strings.Repeat("{", long), "{" + strings.Repeat("a", long), `{a="` + strings.Repeat("v", long), `{a="` + strings.Repeat(`\`, long),
		"{" + strings.Repeat(`a="",`, long/5) + "}", "{" + strings.Repeat(",", long),
	} {
		if l, e := Read(s); l != nil || e != api.ErrForm {
			t.Errorf("Read(%s..): %d labels, %d", s[:9], len(l), e)
		}
		if m, e := ReadMatch(s); m != nil || e != api.ErrForm {
			t.Errorf("ReadMatch(%s..): %d matches, %d", s[:9], len(m), e)
		}
	}
	word := strings.Repeat("a", long)
	if e := Check(labels(word, "")); e != api.ErrForm {
		t.Error(e)
	}
	if e := Check(labels("a", word)); e != api.ErrLarge {
		t.Error(e)
	}
}

func TestP2NothingHandedInIsChanged(t *testing.T) {
	for _, l := range append(manyLabels(), labels("b", "", "a", ""), labels("A", ""), rising(11)) {
		room := slices.Concat(l, labels("room", "behind", "the", "list"))
		before := slices.Clone(room)
		Check(room[:len(l)])
		Text(room[:len(l)])
		Fits(room[:len(l)], nil)
		if !slices.Equal(room, before) {
			t.Fatalf("%q was changed to %q", before, room)
		}
	}
	for _, m := range append(manyMatches(), make([]api.Match, 11)) {
		room := slices.Concat(m, []api.Match{match(7, "room", "behind"), match(8, "the", "list")})
		before := slices.Clone(room)
		MatchText(room[:len(m)])
		Fits(labels("a", "x"), room[:len(m)])
		if !slices.Equal(room, before) {
			t.Fatalf("%v was changed to %v", before, room)
		}
	}
}

func TestP2AnswersShareNoMemory(t *testing.T) {
	s := `{first="some value",second="another value"}`
	l, e := Read(s)
	again, _ := Read(s)
	m, _ := ReadMatch(s)
	if e != api.OK || len(l) != 2 || len(m) != 2 {
		t.Fatal(l, m, e)
	}
	for i := range l {
		for _, part := range []string{l[i].Name, l[i].Value, m[i].Name, m[i].Value} {
			if shares(part, s) {
				t.Errorf("%q is a part of what was handed in", part)
			}
		}
		if shares(l[i].Name, m[i].Name) || shares(l[i].Value, again[i].Value) || shares(l[i].Name, l[1-i].Name) || shares(l[i].Value, l[1-i].Value) {
			t.Errorf("%q shares its memory", l[i])
		}
	}
	again[0] = api.Label{Name: "other"}
	m[0] = match(api.MHas, "other", "")
	if want := labels("first", "some value", "second", "another value"); !slices.Equal(l, want) {
		t.Errorf("%q, want %q", l, want)
	}
	if l, e := Read(s); l[0].Name != "first" || e != api.OK {
		t.Errorf("%q, %d", l, e)
	}
}

func TestP2AnswersHangOnWhatIsHandedInAlone(t *testing.T) {
	l := labels("a", "x", "b", "y")
	first, _ := Text(l)
	Text(labels("c", "z"))
	Read(`{d="w"}`)
	ReadMatch(`{d!="w"}`)
	l[1].Value = "later"
	if first != `{a="x",b="y"}` {
		t.Error(first)
	}
	if s, _ := Text(l); s != `{a="x",b="later"}` {
		t.Error(s)
	}
}
