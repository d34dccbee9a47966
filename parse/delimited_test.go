package parse_test

import (
	"slices"
	"strings"
	"testing"

	"logtide/api"
	"logtide/parse"
)

// P11.3

func TestDelimited(t *testing.T) {
	for s, want := range map[string][]string{
		``:                {""},
		`a`:               {"a"},
		`,`:               {"", ""},
		`,,`:              {"", "", ""},
		`a,b`:             {"a", "b"},
		`a,`:              {"a", ""},
		`,a`:              {"", "a"},
		`a,,b`:            {"a", "", "b"},
		` a , b `:         {" a ", " b "},
		`""`:              {""},
		`"",""`:           {"", ""},
		`"a"`:             {"a"},
		`"a","b"`:         {"a", "b"},
		`"a",b,"c"`:       {"a", "b", "c"},
		`"a",`:            {"a", ""},
		`,"a"`:            {"", "a"},
		`"a,b",c`:         {"a,b", "c"},
		`",",","`:         {",", ","},
		`""""`:            {`"`},
		`""""""`:          {`""`},
		`"""",""""`:       {`"`, `"`},
		`"a""b"`:          {`a"b`},
		`"""a"""`:         {`"a"`},
		`""",""",x`:       {`","`, "x"},
		`"a""",b"`:        {`a"`, `b"`},
		`","`:             {","},
		`a"`:              {`a"`},
		`a"b`:             {`a"b`},
		`a"b"`:            {`a"b"`},
		`a""b`:            {`a""b`},
		`a",b"`:           {`a"`, `b"`},
		` "a"`:            {` "a"`},
		` "a,b"`:          {` "a`, `b"`},
		`x"y",z`:          {`x"y"`, "z"},
		`\"a\",b`:         {`\"a\"`, "b"},
		`"a\",b`:          {`a\`, "b"}, // a backslash is an ordinary byte
		"a\nb,\r\n":       {"a\nb", "\r\n"},
		"\"a\nb\",\"\r\"": {"a\nb", "\r"},
		"\x00,\xff,é":     {"\x00", "\xff", "é"},
		"'a','b;c'":       {"'a'", "'b;c'"},
	} {
		wantDelimited(t, s, ',', want...)
	}
}

func TestSyntaxOfDelimited(t *testing.T) {
	for _, s := range []string{`"`, `"a`, `"a,b`, `"""`, `"""""`, `"a""`, `"a"b`, `"a" `, `"a" ,b`, `""a`, `"" "`, `a,"`, `a,"b`, `a,"b"c`, `"a"",b"c`, `"a",b,"c`, `"a"b"c"`, "\"a\"\n", "\"a\"\x00", `"a";b`, `"a\"b"`, `"","""`} {
		wantDelimitedError(t, s, ',', api.ErrSyntax)
	}
}

func TestSeparators(t *testing.T) {
	for c := range 256 {
		sep := byte(c)
		b := string([]byte{sep})
		x := "x"
		if b == x {
			x = "y"
		}
		if b == `"` || b == "\n" || b == "\r" {
			for _, s := range []string{"", x, b, x + b + x, `"`, `"x"`, repeated(api.MaxFields+1, x, b)} {
				wantDelimitedError(t, s, sep, api.ErrRange)
			}
			continue
		}
		wantDelimited(t, "", sep, "")
		wantDelimited(t, x, sep, x)
		wantDelimited(t, b, sep, "", "")
		wantDelimited(t, x+b+x+x+b, sep, x, x+x, "")
		wantDelimited(t, strings.Join([]string{`"` + x + b + `"`, x + `"`, `"` + b + `"`, `"""` + b + b + `"""`}, b), sep, x+b, x+`"`, b, `"`+b+b+`"`)
		wantDelimitedError(t, x+b+`"`+x+`"`+x, sep, api.ErrSyntax)
		wantDelimitedError(t, x+b+`"`+b, sep, api.ErrSyntax)
		if b != "," {
			wantDelimited(t, ","+b+",,", sep, ",", ",,")
			wantDelimitedError(t, `"",`, sep, api.ErrSyntax)
		}
	}
}

func TestBytesOfDelimitedFields(t *testing.T) {
	for c := range 256 {
		b := string([]byte{byte(c)})
		if b == "," {
			continue
		}
		wantDelimited(t, "x"+b+",x"+b+"x", ',', "x"+b, "x"+b+"x")
		if b != `"` {
			wantDelimited(t, b+","+b+"x", ',', b, b+"x")
			wantDelimited(t, `"`+b+`","x`+b+`x"`, ',', b, "x"+b+"x")
			wantDelimitedError(t, `""`+b, ',', api.ErrSyntax)
		}
	}
}

func TestMostDelimitedFields(t *testing.T) {
	for _, part := range []string{"", "x", `""`, `"x"`, `"a,b"`, `x"`} {
		l, err := parse.Delimited(repeated(api.MaxFields, part, ","), ',')
		if len(l) != api.MaxFields || err != api.OK {
			t.Errorf("%d fields %s: %q, %d", api.MaxFields, part, l, err)
		}
		for _, count := range []int{api.MaxFields + 1, api.MaxFields + 2, 1000} {
			wantDelimitedError(t, repeated(count, part, ","), ',', api.ErrTooMany)
		}
	}
	wantDelimited(t, `"`+repeated(100, "", ",")+`"`, ',', repeated(100, "", ","))
	numbers := numbered(api.MaxFields)
	wantDelimited(t, strings.Join(numbers, ";"), ';', numbers...)
}

// The errors in their order: the separator, the form, the number of fields.
func TestFirstErrorOfDelimited(t *testing.T) {
	wantDelimitedError(t, `"a`, '"', api.ErrRange)
	wantDelimitedError(t, `"a`, '\n', api.ErrRange)
	wantDelimitedError(t, strings.Repeat("\r", 40), '\r', api.ErrRange)
	wantDelimitedError(t, strings.Repeat(",", 40)+`"`, ',', api.ErrSyntax)
	wantDelimitedError(t, strings.Repeat(",", 1000)+`"a"b`, ',', api.ErrSyntax)
	wantDelimitedError(t, `"`+strings.Repeat(",", 40), ',', api.ErrSyntax)
}

// Delimited has no limit for its argument.
func TestLongDelimited(t *testing.T) {
	const long = 1 << 22
	wantDelimited(t, strings.Repeat("x", long)+","+strings.Repeat(`y"`, long/2), ',', strings.Repeat("x", long), strings.Repeat(`y"`, long/2))
	wantDelimited(t, `"`+strings.Repeat(`""`, long)+`",`, ',', strings.Repeat(`"`, long), "")
	wantDelimitedError(t, strings.Repeat(",", long), ',', api.ErrTooMany)
	wantDelimitedError(t, strings.Repeat(",", long)+`"`, ',', api.ErrSyntax)
	wantDelimitedError(t, strings.Repeat(`"",`, long)+`""""`, ',', api.ErrTooMany)
	wantDelimitedError(t, strings.Repeat(`""`, long)+`"`, ',', api.ErrSyntax)
}

func wantDelimitedByDefinition(t *testing.T, s string, sep byte) {
	t.Helper()
	want, wantErr := delimitedByDefinition(s, sep)
	if l, err := parse.Delimited(s, sep); !slices.Equal(l, want) || err != wantErr {
		t.Errorf("Delimited(%q, %q) = %q, %d, want %q, %d", s, sep, l, err, want, wantErr)
	}
}

func TestAllShortDelimited(t *testing.T) {
	for s := range texts(7, "a", ",", `"`, "\n") {
		wantDelimitedByDefinition(t, s, ',')
		if t.Failed() {
			return
		}
	}
}

func TestSeparatorsInShortTexts(t *testing.T) {
	for c := range 256 {
		for s := range texts(3, "a", ",", `"`, string([]byte{byte(c)})) {
			wantDelimitedByDefinition(t, s, byte(c))
		}
	}
}

func TestChangesOfDelimited(t *testing.T) {
	for _, s := range []string{`a,"b""c,",,"",d"`, `"";"x";y`} {
		for changed := range changes(s) {
			wantDelimitedByDefinition(t, changed, ',')
			wantDelimitedByDefinition(t, changed, ';')
		}
	}
}
