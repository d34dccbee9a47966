package parse_test

import (
	"strings"
	"testing"

	"logtide/api"
	"logtide/parse"
)

// P11.4

func TestJSON(t *testing.T) {
	for s, want := range map[string][]api.Field{
		`{}`:                          nil,
		` { } `:                       nil,
		"\t{\t}\t":                    nil,
		`{"a":"1"}`:                   fields("a", "1"),
		`{"b":2,"a":"x y"}`:           fields("a", "x y", "b", "2"),
		`{"a":true,"b":false}`:        fields("a", "true", "b", "false"),
		`{"a":null,"b":"null"}`:       fields("a", "", "b", "null"),
		`{"a":"","b":"true"}`:         fields("a", "", "b", "true"),
		`{"a":{}}`:                    nil,
		`{"a":{},"b":{"c":{}}}`:       nil,
		`{"a":{"b":1}}`:               fields("a.b", "1"),
		`{"a":{"c":2,"b":1},"0":{}}`:  fields("a.b", "1", "a.c", "2"),
		`{"a":{"b":1},"c":2}`:         fields("a.b", "1", "c", "2"),
		`{"c":2,"a":{"b":{"d":"x"}}}`: fields("a.b.d", "x", "c", "2"),
		`{"a":{"b":{},"c":{"d":{"e":null},"f":1},"g":2},"h":3}`: fields("a.c.d.e", "", "a.c.f", "1", "a.g", "2", "h", "3"),
		`{"a":{"b":1},"a":{"c":2}}`:                             fields("a.b", "1", "a.c", "2"),
		`{"a":1,"a":{}}`:                                        fields("a", "1"),
		`{"a":1,"a":{"a":2}}`:                                   fields("a", "1", "a.a", "2"),
		`{"a.b":1,"a":{"c.d":{"e":2}}}`:                         fields("a.b", "1", "a.c.d.e", "2"),
		`{"a":{"":1}}`:                                          fields("a.", "1"),
		`{"a":{"":{"":1,"1":2}}}`:                               fields("a..", "1", "a..1", "2"),
		`{"a":{".":1,"_":2}}`:                                   fields("a..", "1", "a._", "2"),
		` { "a" : 1 , "b" : { "c" : "x" } } `:                   fields("a", "1", "b.c", "x"),
		"\t{ \t\"a\" \t:\t \"x\"\t,\t\"b\"\t:\t-1\t}\t \t":      fields("a", "x", "b", "-1"),
		"{\"a\": true ,\"b\":\tnull\t,\"c\": { } }":             fields("a", "true", "b", ""),
		`{"a":"{\"b\":1}","c":"}","d":"],:[{"}`:                 fields("a", `{"b":1}`, "c", "}", "d", "],:[{"),
	} {
		wantJSON(t, s, want)
	}
}

func TestSyntaxOfJSON(t *testing.T) {
	for _, s := range []string{
		``, ` `, `a`, `1`, `"a"`, `"a":1`, `null`, `true`, `[]`, `[{}]`, `}`, `{`, ` { `, `{{}}`, `{}}`, `{}{}`, `{} {}`, `{},`, `{}1`, `{}"`, `x{}`, `,{}`,
		`{,}`, `{:}`, `{1}`, `{"}`, `{"a`, `{"a"`, `{"a"}`, `{"a":`, `{"a":}`, `{"a",}`, `{"a":,}`, `{"a"::1}`, `{"a":1`, `{"a":1,`, `{"a":1,}`, `{,"a":1}`, `{"a":1,,"b":2}`, `{"a":1 "b":2}`, `{"a":1"b":2}`, `{"a":1;"b":2}`, `{"a"=1}`, `{"a" 1}`, `{"a":1,"b"}`, `{"a":1,"b":}`, `{"a":1,{}}`, `{"a":1,2}`,
		`{a:1}`, `{'a':1}`, `{"a":'1'}`, `{1:1}`, `{null:1}`, `{true:1}`, `{{}:1}`, `{"a":b}`, `{"a":"b"c}`, `{"a":"b""c"}`, `{"a":1 2}`, `{"a":"x" 1}`, `{"a":{}1}`, `{"a":{},}`, `{"a":{}`, `{"a":{}}}`, `{"a":{"b":1}`, `{"a":{"b":1,}}`, `{"a":{1}}`, `{"a":{"b"}}`, `{"a":{}{}}`, `{"a":{} "b":1}`,
		`{"a":[]}`, `{"a":[1]}`, `{"a":[{}]}`, `{"a":(1)}`, `{"a":undefined}`, `{"a":NaN}`, `{/**/}`, `{}//`, `{}#`, `{}\`,
		"{}\n", "\n{}", "{\n}", "{\r}", "{\"a\"\n:1}", "{\"a\":\n1}", "{\"a\":1\n}", "{\"a\":1,\n\"b\":2}", "\r\n{}", "{}\x00", "\x00{}", "{\v}", "{\f}", "{}\u00a0", "\ufeff{}",
	} {
		wantJSONError(t, s, api.ErrSyntax)
	}
}

// Blanks and tabs are allowed between tokens, and other bytes nowhere.
func TestSpaceBetweenTokens(t *testing.T) {
	tokens := []string{"{", `"a"`, ":", "{", `"b"`, ":", "-12", ",", `"c"`, ":", "null", "}", ",", `"d"`, ":", `"x"`, "}"}
	want := fields("a.b", "-12", "a.c", "", "d", "x")
	for at := 0; at <= len(tokens); at++ {
		before, after := strings.Join(tokens[:at], ""), strings.Join(tokens[at:], "")
		for _, space := range []string{"", " ", "\t", "  ", " \t", "\t\t \t"} {
			wantJSON(t, before+space+after, want)
		}
		for c := range 256 {
			b := string([]byte{byte(c)})
			if b == " " || b == "\t" || strings.Contains("0123456789", b) && at > 0 && tokens[at-1] == "-12" {
				continue
			}
			wantJSONError(t, before+b+after, api.ErrSyntax)
			wantJSONError(t, before+" "+b+" "+after, api.ErrSyntax)
		}
	}
	for _, s := range []string{`{"a":- 1}`, `{"a":1 2}`, `{"a":t rue}`, `{"a":nul l}`, "{\"a\":tru\te}"} {
		wantJSONError(t, s, api.ErrSyntax)
	}
	wantJSON(t, `{" a ":{}, "b":" x "}`, fields("b", " x "))
}

func TestBytesOfStrings(t *testing.T) {
	for c := range 256 {
		b := string([]byte{byte(c)})
		switch {
		case b == `"` || b == `\` || c < 32:
			wantJSONError(t, `{"a":"x`+b+`x"}`, api.ErrSyntax)
			wantJSONError(t, `{"a":"`+b+`"}`, api.ErrSyntax)
			wantJSONError(t, `{"x`+b+`x":{}}`, api.ErrSyntax)
		default:
			wantJSON(t, `{"a":"`+b+`","b":"x`+b+`x"}`, fields("a", b, "b", "x"+b+"x"))
			wantJSON(t, `{"x`+b+`":{}}`, nil)
		}
	}
	wantJSON(t, "{\"a\":\"é\u2028\U0001f600\xff\xed\xa0\x80\x7f\"}", fields("a", "é\u2028\U0001f600\xff\xed\xa0\x80\x7f"))
}

func TestEscapes(t *testing.T) {
	meanings := map[string]string{`"`: `"`, `\`: `\`, "/": "/", "n": "\n", "t": "\t", "r": "\r"}
	for c := range 256 {
		b := string([]byte{byte(c)})
		meaning, known := meanings[b]
		if !known {
			wantJSONError(t, `{"a":"\`+b+`"}`, api.ErrSyntax)
			wantJSONError(t, `{"a":"\\\`+b+`\\"}`, api.ErrSyntax)
			wantJSONError(t, `{"a\`+b+`":{}}`, api.ErrSyntax)
			continue
		}
		wantJSON(t, `{"a":"\`+b+`","b":"x\`+b+`\`+b+`x"}`, fields("a", meaning, "b", "x"+meaning+meaning+"x"))
		wantJSON(t, `{"a\`+b+`":{}}`, nil)
		wantJSONError(t, `{"a\`+b+`":1}`, api.ErrName)
	}
	wantJSON(t, `{"a":"\\n\\\"\\\\"}`, fields("a", `\n\"\\`))
	for _, s := range []string{`{"a":"\`, `{"a":"\"`, `{"a":"\"}`, `{"a":"\\\"}`, `{"a":"\u0041"}`, `{"a":"\b"}`, `{"a":"\f"}`, `{"a":"\N"}`, `{"a\`, `{"a\"`, `{"a\":1}`, `{"a":\n}`, `{\n}`} {
		wantJSONError(t, s, api.ErrSyntax)
	}
}

func TestIntegers(t *testing.T) {
	for _, n := range []string{"0", "-0", "1", "-1", "9", "10", "-10", "1234567890", "-9223372036854775808", "9223372036854775808", "100000000000000000000", "-" + strings.Repeat("9", 1000), "1" + strings.Repeat("0", 1000)} {
		wantJSON(t, `{"a":`+n+`}`, fields("a", n))
		wantJSON(t, `{"a": `+n+` ,"b":1}`, fields("a", n, "b", "1"))
		wantJSON(t, `{"a":{"b":`+n+`}}`, fields("a.b", n))
	}
	for _, n := range []string{"", "-", "--1", "+1", "00", "01", "-00", "-01", "007", "1-", "1-2", "1+1", "0-", "- 1", "1.", "1.0", ".5", "-.5", "0.0", "1e2", "1E2", "0x1", "1_000", "1,000", "1a", "a1", "-a", "0true", "1null", "1{}", "1\"\"", "٣", "١"} {
		wantJSONError(t, `{"a":`+n+`}`, api.ErrSyntax)
		wantJSONError(t, `{"a":`+n+` ,"b":1}`, api.ErrSyntax)
	}
	for n := range texts(5, "-", "0", "1", "9", ".", "e") {
		wantJSONByDefinition(t, `{"a":`+n+`}`)
		if t.Failed() {
			return
		}
	}
}

func TestWords(t *testing.T) {
	for _, word := range []string{"true", "false", "null"} {
		for changed := range changes(word) {
			wantJSONByDefinition(t, `{"a":`+changed+`}`)
		}
		for at := range word {
			wantJSONError(t, `{"a":`+word[:at], api.ErrSyntax)
			wantJSONError(t, `{"a":`+word[:at]+`}`, api.ErrSyntax)
		}
		for _, s := range []string{strings.ToUpper(word), strings.ToUpper(word[:1]) + word[1:], word + "s", word + word, word + "1", word + "{}", word + `""`, "-" + word, `"` + word, word + `"`} {
			wantJSONError(t, `{"a":`+s+`}`, api.ErrSyntax)
		}
		wantJSONError(t, `{`+word+`:1}`, api.ErrSyntax)
		wantJSONError(t, word, api.ErrSyntax)
	}
}

// nested returns an object at so great a depth, in others.
func nested(depth int, object string) string {
	return strings.Repeat(`{"a":`, depth) + object + strings.Repeat("}", depth)
}

func TestDepth(t *testing.T) {
	for depth := range 9 {
		wantJSON(t, nested(depth, `{}`), nil)
		name := strings.Repeat("a.", depth)
		wantJSON(t, nested(depth, `{"b":1,"c":"{{{{{{{{{{{{"}`), fields(name+"b", "1", name+"c", "{{{{{{{{{{{{"))
		wantJSON(t, nested(depth, ` { "b" : null } `), fields(name+"b", ""))
	}
	for depth := 9; depth < 12; depth++ {
		wantJSONError(t, nested(depth, `{}`), api.ErrDeep)
		wantJSONError(t, nested(depth, `{"b":1}`), api.ErrDeep)
	}
	wantJSONError(t, nested(1<<16, `{}`), api.ErrDeep)
	wantJSONError(t, strings.Repeat(`{"a":`, 1<<20), api.ErrDeep)
	wantJSONError(t, strings.Repeat(`{`, 1<<20), api.ErrSyntax)
	// The depth counts the objects around, not those before.
	wantJSON(t, nested(4, `{"b":`+nested(3, "{}")+`,"c":`+nested(3, "{}")+`,"d":{},"e":1}`), fields("a.a.a.a.e", "1"))
	wantJSON(t, `{`+repeated(100, `"a":`+nested(7, "{}"), ",")+`}`, nil)
	wantJSONError(t, `{`+repeated(100, `"a":`+nested(7, "{}"), ",")+`,"a":`+nested(8, "{}")+`}`, api.ErrDeep)
}

// What is first from the left decides, whatever comes after it.
func TestDepthAndSyntax(t *testing.T) {
	open := strings.Repeat(`{"a":`, 9)
	for _, s := range []string{`{`, `{x`, ` {`, "\t {\n", `{"`, `{}`, `{}}}}}}}}}} x`, `{{`, `{"a":01`} {
		wantJSONError(t, open+s, api.ErrDeep)
	}
	for _, s := range []string{``, ` `, `x{`, `[{`, "\n{", `1{`, `null{`, `"{`, `"x"{`, `:{`, `,{`, `}{`, `tru{`, `-{`, `1,{`, `1,"b"{`, `1,"b":x{`, `"\{"`, "\x00{"} {
		wantJSONError(t, open+s, api.ErrSyntax)
	}
	for _, s := range []string{`1,"b":{`, `1,"b": {x`, `1}}}}}}}},"b":` + strings.Repeat(`{"a":`, 8) + `{`, `"{","b":{`} {
		wantJSONError(t, open+s, api.ErrDeep)
	}
	for at := 1; at < len(open); at++ {
		wantJSONError(t, open[:at]+"\n"+open[at:]+`{}`, api.ErrSyntax)
	}
	wantJSONError(t, `{"a":x}`+nested(9, "{}"), api.ErrSyntax)
	wantJSONError(t, `{}`+nested(9, "{}"), api.ErrSyntax)
	wantJSONError(t, `{"a":"`+nested(9, "{}")+`"}`, api.ErrSyntax)
}

func TestNamesOfMembers(t *testing.T) {
	longest := strings.Repeat("a", api.MaxName)
	wantJSON(t, `{"`+longest+`":1}`, fields(longest, "1"))
	wantJSON(t, `{"`+longest[:30]+`":{"b":1}}`, fields(longest[:30]+".b", "1"))
	wantJSONError(t, `{"`+longest+`a":1}`, api.ErrName)
	wantJSONError(t, `{"`+longest[:30]+`":{"bc":1}}`, api.ErrName)
	wantJSONError(t, `{"`+longest+`":{"":1}}`, api.ErrName)
	for _, name := range []string{"", "1", ".", ".a", "a b", "a-b", "é", " a", "a ", "{", `\"`, `\\`, `\/`, `a\n`} {
		wantJSONError(t, `{"`+name+`":1}`, api.ErrName)
		wantJSONError(t, `{"`+name+`":{"a":1}}`, api.ErrName)
		wantJSONError(t, `{"a":1,"`+name+`":2,"b":3}`, api.ErrName)
		wantJSON(t, `{"`+name+`":{},"a":1}`, fields("a", "1"))
	}
	for _, s := range []string{`{"a":1,"a":1}`, `{"a":1,"b":2,"a":3}`, `{"a":{"b":1},"a.b":2}`, `{"a.b":1,"a":{"b":2}}`, `{"a":{"b":1},"a":{"b":2}}`, `{"a":{"":1},"a.":2}`, `{"a":{"b":{"c":1}},"a.b":{"c":2}}`, `{"a":null,"a":null}`} {
		wantJSONError(t, s, api.ErrTwice)
	}
}

// object returns an object with members of these names, in reverse order, with their numbers as values.
func object(names ...string) string {
	var members []string
	for _, f := range named(names...) {
		members = append([]string{`"` + f.Name + `":` + f.Value}, members...)
	}
	return "{" + strings.Join(members, ",") + "}"
}

func TestMostMembers(t *testing.T) {
	most := numbered(api.MaxFields)
	wantJSON(t, object(most...), named(most...))
	wantJSON(t, `{"a":{},`+object(most...)[1:], named(most...))
	wantJSONError(t, `{"a":1,`+object(most...)[1:], api.ErrTooMany)
	wantJSONError(t, `{"a":{"b":1},`+object(most...)[1:], api.ErrTooMany)
	for _, count := range []int{api.MaxFields + 1, api.MaxFields + 2, 1000} {
		wantJSONError(t, object(numbered(count)...), api.ErrTooMany)
	}
	wantJSON(t, `{`+repeated(1000, `"":{}`, ",")+`}`, nil)
}

// ErrSyntax and ErrDeep come before the errors of Sort, wherever they are.
func TestFirstErrorOfJSON(t *testing.T) {
	wantJSONError(t, `{"":1,"a":2,"a":3,}`, api.ErrSyntax)
	wantJSONError(t, `{"a":1,"a":1} x`, api.ErrSyntax)
	wantJSONError(t, `{"":1,"a":`+nested(8, "{}")+`}`, api.ErrDeep)
	wantJSONError(t, `{`+repeated(100, `"":1`, ",")+`,"a":`+nested(8, "{}")+`}`, api.ErrDeep)
	wantJSONError(t, `{`+repeated(100, `"":1`, ",")+`,"a":1`, api.ErrSyntax)
	wantJSONError(t, `{`+repeated(33, `"":1`, ",")+`}`, api.ErrTooMany)
	wantJSONError(t, `{`+repeated(32, `"":1`, ",")+`}`, api.ErrName)
	wantJSONError(t, `{`+repeated(32, `"a":1`, ",")+`}`, api.ErrTwice)
	wantJSONError(t, `{`+repeated(33, `"a":1`, ",")+`}`, api.ErrTooMany)
	wantJSONError(t, `{"a":1,"a":2,"":3}`, api.ErrName)
}

// JSON has no limit for its argument. If the long name were joined with the names of all members, this would take longer than a test can wait.
func TestLongJSON(t *testing.T) {
	const long = 1 << 22
	value := strings.Repeat("x", long)
	wantJSON(t, `{"a":"`+value+`","b":"`+strings.Repeat(`\\`, long)+`"}`, fields("a", value, "b", strings.Repeat(`\`, long)))
	wantJSON(t, strings.Repeat(" ", long)+`{`+strings.Repeat("\t", long)+`}`+strings.Repeat(" ", long), nil)
	wantJSON(t, `{"a":-`+strings.Repeat("1", long)+`}`, fields("a", "-"+strings.Repeat("1", long)))
	wantJSONError(t, `{"a":`+strings.Repeat("0", long)+`}`, api.ErrSyntax)
	wantJSONError(t, `{"`+value+`":1}`, api.ErrName)
	wantJSONError(t, `{"`+value+`":{`+repeated(1<<18, `"a":1`, ",")+`}}`, api.ErrTooMany)
	wantJSON(t, `{"`+value+`":{`+repeated(1<<18, `"a":{}`, ",")+`}}`, nil)
	wantJSON(t, `{"`+value+`":{`+repeated(1<<18, `"a":{"b":{}}`, ",")+`}}`, nil)
	wantJSONError(t, `{"`+value, api.ErrSyntax)
}

func wantJSONByDefinition(t *testing.T, s string) {
	t.Helper()
	want, wantErr := jsonByDefinition(s)
	l, err := parse.JSON(s)
	wantResult(t, "JSON", s, l, err, want, wantErr)
}

func TestAllShortJSON(t *testing.T) {
	for s := range texts(5, "{", "}", `"a"`, `"b"`, ":", ",", "1", " ", "null") {
		wantJSONByDefinition(t, s)
		wantJSONByDefinition(t, `{"c":`+s+`}`)
		if t.Failed() {
			return
		}
	}
}

func TestAllShortStrings(t *testing.T) {
	for s := range texts(5, `"`, `\`, "n", "/", "u", "\t", "\x1f", "\x80") {
		wantJSONByDefinition(t, `{"a":"`+s+`"}`)
		if t.Failed() {
			return
		}
	}
}

func TestChangesOfJSON(t *testing.T) {
	deep := strings.Repeat(`{"a":`, 7)
	for _, s := range []string{
		` {"b":"x\n\"", "a":{"c":-12,"d":{}} ,	"e":true}`,
		deep + `{"b":{}, "c":{"d":0}}}}}}}}}`,
		deep + `{"b":{"c":{}}}}}}}}}}`,
	} {
		for changed := range changes(s) {
			wantJSONByDefinition(t, changed)
		}
	}
}
