package lenses_test

import (
	"strings"
	"testing"

	"lenses/api"
	"lenses/lenses"
)

func checkConvert(t *testing.T, from, to, source, want string, wantErr api.Errno) {
	t.Helper()
	got, err := lenses.Convert(mustCompile(t, from), mustCompile(t, to), source)
	if got != want || err != wantErr {
		t.Errorf("%q to %q: Convert(%q) = %q, %d, want %q, %d", from, to, source, got, err, want, wantErr)
	}
}

func TestP12BetweenTheGivenPrograms(t *testing.T) {
	for _, c := range []struct{ from, to, source, want string }{
		{api.Commas, api.Equals, "ab,1;c,22;", "ab=1!c=22!"},
		{api.Equals, api.Commas, "ab=1!c=22!", "ab,1;c,22;"},
		{api.Equals, api.Commas, "ab   = 1!!!c=22!", "ab,1;c,22;"},
		{api.Equals, api.Equals, "ab   = 1!!!c=22!", "ab=1!c=22!"},
		{api.Commas, api.Commas, "b,2;a,1;b,3;", "b,2;a,1;b,3;"},
		{api.Commas, api.Equals, "", ""},
		{api.Equals, api.Commas, "", ""},
	} {
		checkConvert(t, c.from, c.to, c.source, c.want, api.OK)
	}
}

func TestP12BetweenParts(t *testing.T) {
	for _, c := range []struct{ from, to, source, want string }{
		{"/a*/", "/[ab]*/", "aa", "aa"},
		{`-/x*/"xx"/a/`, `-/y*/"y"/a/`, "xxxa", "ya"},
		{`-/x*/"xx"`, `+""`, "xxx", ""},
		{`-/x*/"xx"`, `-/y*/"y"`, "", "y"},
		{`+"w"`, "/w/", "", "w"},
		{"/w/", `+"w"`, "w", ""},
		{"/b//a/", "(/a/~/b/)", "ba", "ab"},
		{"(/a/~/b/)", "/b//a/", "ab", "ba"},
		{`/a/-/1/"1"|/b/-/2/"2"`, `/b/-/3/"3"|/[ab]/-/4/"4"`, "a1", "a4"},
		{`/a/-/1/"1"|/b/-/2/"2"`, `/b/-/3/"3"|/[ab]/-/4/"4"`, "b2", "b3"},
		{`(/[a-z]/-/[0-9]/"0")*`, `</[a-z]/-/;/";">`, "b1a2b3", "b;a;b;"},
		{`</[a-z]/-/;/";">`, `((/a/~+"")|/b/-/!/"!")*`, "b;a;", "b!a"},
	} {
		checkConvert(t, c.from, c.to, c.source, c.want, api.OK)
	}
}

func TestP12Errors(t *testing.T) {
	for _, c := range []struct {
		from, to, source string
		want             api.Errno
	}{
		{api.Commas, api.Equals, "ab", api.ErrSource},
		{api.Commas, api.Equals, "ab=1!", api.ErrSource},
		{api.Commas, api.Equals, "ab1", api.ErrSource},
		{api.Equals, api.Commas, "ab,1;", api.ErrSource},
		{api.Commas, api.Equals, "\x00", api.ErrSource},
		{api.Commas, api.Equals, "é", api.ErrSource},
		{"/a/", "/a*/", "", api.ErrSource},
		// What was read is no view of the second.
		{api.Commas, "/a/", "ab,1;", api.ErrView},
		{"/a*/", "/a+/", "", api.ErrView},
		{"/a/", `-/a/"a"`, "a", api.ErrView},
		{"/a/", `/a/+"!"`, "a", api.ErrView},
		{"(/a/~/b/)", "/ab/", "ab", api.ErrView},
		// Nothing is read out of what is no source, be the text of no signs a view of the second or not.
		{"/a/", "/b/", "b", api.ErrSource},
		{"/a/", "/b*/", "b", api.ErrSource},
	} {
		checkConvert(t, c.from, c.to, c.source, "", c.want)
	}
}

func TestP12Length(t *testing.T) {
	a := func(times int) string { return strings.Repeat("a", times) }
	pairs := func(times int) string { return strings.Repeat("a;", times) }
	checkConvert(t, "/a*/", "/a*/", a(60), a(60), api.OK)
	checkConvert(t, "/a*/", "/a*/", a(61), "", api.ErrSource)
	checkConvert(t, "/a*/", "/b/", a(61), "", api.ErrSource)
	checkConvert(t, "/a*/", "/a*/", a(100000), "", api.ErrSource)
	// What stands between the two may be too long for the second.
	for _, to := range []string{"/a;/*", `(/a/+";")*`, `</a;/>`} {
		checkConvert(t, `(/a/+";")*`, to, a(31), "", api.ErrView)
		checkConvert(t, `</a/+";">`, to, a(60), "", api.ErrView)
	}
	checkConvert(t, `(/a/+";")*`, "/a;/*", a(30), pairs(30), api.OK)
	checkConvert(t, `(/a/+";")*`, `</a/+";">`, a(30), a(30), api.OK)
	checkConvert(t, `/a*/+"b"`, `/a*//b/`, a(59), a(59)+"b", api.OK)
	checkConvert(t, `/a*/+"b"`, `/a*//b/`, a(60), "", api.ErrView)
	// The answer may be longer than 60.
	checkConvert(t, "/a*/", `(/a/-/;/";")*`, a(30), pairs(30), api.OK)
	checkConvert(t, "/a*/", `(/a/-/;/";")*`, a(31), pairs(31), api.OK)
	checkConvert(t, "/a*/", `</a/-/;/";">`, a(60), pairs(60), api.OK)
	checkConvert(t, `(/a/-/;/";")*`, `/a*/-/b/"b"`, pairs(30), a(30)+"b", api.OK)
	commas := strings.Repeat("a,1;", 15)
	checkConvert(t, api.Commas, api.Equals, commas, strings.Repeat("a=1!", 15), api.OK)
	checkConvert(t, api.Commas, api.Equals, commas+"a,1;", "", api.ErrSource)
}

// P12 says that Convert is two calls; so it must answer what they do, whatever the source is.
func TestP12IsGetThenCreate(t *testing.T) {
	programs := lawPrograms()
	texts := append(allWords("ab1;", 3), "a,1;", "b,1;a,2;", "a=1!", strings.Repeat("a", 60), strings.Repeat("a", 61), "\x00", "a\x7f")
	for _, from := range programs {
		for _, to := range programs {
			one, other := mustCompile(t, from), mustCompile(t, to)
			for _, text := range texts {
				view, err := one.Get(text)
				want := ""
				if err == api.OK {
					want, err = other.Create(view)
				}
				if got, gotErr := lenses.Convert(one, other, text); got != want || gotErr != err {
					t.Errorf("%q to %q: Convert(%q) = %q, %d, want %q, %d", from, to, text, got, gotErr, want, err)
				}
			}
		}
	}
}
