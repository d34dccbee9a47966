package parse_test

import (
	"strings"
	"testing"

	"logtide/api"
	"logtide/parse"
)

// P11.2

func TestKeyValue(t *testing.T) {
	for s, want := range map[string][]api.Field{
		``:                           nil,
		` `:                          nil,
		`   `:                        nil,
		`a=1`:                        fields("a", "1"),
		`b=2 a="x y"`:                fields("a", "x y", "b", "2"),
		`  a=1   b=2  `:              fields("a", "1", "b", "2"),
		`a= b=`:                      fields("a", "", "b", ""),
		`a="" b=""`:                  fields("a", "", "b", ""),
		`a==`:                        fields("a", "="),
		`a=b=c d=e=`:                 fields("a", "b=c", "d", "e="),
		`a="b=c" d=1`:                fields("a", "b=c", "d", "1"),
		`a=" x  y "  b="="`:          fields("a", " x  y ", "b", "="),
		`a="\"" b="\\" c="\\\""`:     fields("a", `"`, "b", `\`, "c", `\"`),
		`a="x\"y\\z"`:                fields("a", `x"y\z`),
		`a="\\\\" b="\"\""`:          fields("a", `\\`, "b", `""`),
		`a=\ b=\\ c=x\n d=\`:         fields("a", `\`, "b", `\\`, "c", `x\n`, "d", `\`), // there are no escapes outside of '"'
		"a=x\ty b=\t":                fields("a", "x\ty", "b", "\t"),
		"a=x\ny b=\r\n":              fields("a", "x\ny", "b", "\r\n"),
		"a=\"x\ty\nz\x00\"":          fields("a", "x\ty\nz\x00"),
		"a=\x00\xff b=\"\xc3\" c=é":  fields("a", "\x00\xff", "b", "\xc3", "c", "é"),
		`a=[1,2] b='x' c=y'z`:        fields("a", "[1,2]", "b", "'x'", "c", "y'z"),
		`level=warn msg="it's" n=-1`: fields("level", "warn", "msg", "it's", "n", "-1"),
		`http.status=200 _=1 a_b.c=`: fields("_", "1", "a_b.c", "", "http.status", "200"),
	} {
		wantKeyValue(t, s, want)
	}
}

func TestSyntaxOfKeyValue(t *testing.T) {
	for _, s := range []string{
		`a`, `"`, `\`, `a b`, `a b=1`, `a =1`, `a = 1`, `a= 1`, ` a`, `a=1 b`, `a b=1 c`, `b=1 a `,
		`a="`, `a="x`, `a="x `, `a="x b=1`, `a="\"`, `a="\`, `a="x\`, `a="\\\"`, `a="" b="`,
		`a="x"y`, `a="x""y"`, `a=""""`, `a="""`, `a="x"=`, `a="x"b=1`, `a=""b=""`, "a=\"x\"\tb=1", "a=\"x\"\n", `a="x"\`,
		`a=x"`, `a=x"y"`, `a=x"y`, `a=\"`, `a=\"x\"`, `a==""`, `a= "x"`, `a=1 "x"`, `a={"b":1}`, "a=\t\"x\"",
		`a="\n"`, `a="\t"`, `a="\/"`, `a="\ "`, `a="\a"`, `a="\=" b=1`, "a=\"\\\x00\"", "a=\"\\\xff\"", "a=\"\\\n\"",
		"\t", "\n", "a=1 \t", "a=1 \n", "a=1 \t b=2",
	} {
		wantKeyValueError(t, s, api.ErrSyntax)
	}
	for c := range 256 {
		if c != '"' && c != '\\' {
			wantKeyValueError(t, `a="\`+string([]byte{byte(c)})+`"`, api.ErrSyntax)
		}
	}
}

func TestBytesOfValues(t *testing.T) {
	for c := range 256 {
		b := string([]byte{byte(c)})
		for _, s := range []string{b, "x" + b, b + "x", "x" + b + "x"} {
			switch b {
			case " ":
			case `"`:
				wantKeyValueError(t, "a="+s, api.ErrSyntax)
			default:
				wantKeyValue(t, "a="+s, fields("a", s))
			}
			if b != `"` && b != `\` {
				wantKeyValue(t, `a="`+s+`"`, fields("a", s))
			}
		}
	}
}

// Names are what is before the first '=', and only Sort refuses them.
func TestNamesOfPairs(t *testing.T) {
	for _, s := range []string{`=`, `=1`, `==`, `=""`, `1=2`, `a=1 =`, `"a"=1`, `"=1`, `a"=1`, `a\=1`, `.=1`, `a-b=1`, "a\t=1", "\ta=1", "a\n=1", "a=1 \tb=2", "a=1\tb=2 \nc=3", "\x00=", "é=1", "\xff=", `{"a=1`, strings.Repeat("a", api.MaxName+1) + "=1"} {
		wantKeyValueError(t, s, api.ErrName)
	}
	longest := strings.Repeat("a", api.MaxName)
	wantKeyValue(t, longest+"=1", fields(longest, "1"))
	for c := range 256 {
		b := string([]byte{byte(c)})
		s := "a" + b + "b=1"
		l, err := sortByDefinition(fields("a"+b+"b", "1"))
		switch b {
		case " ":
			wantKeyValueError(t, s, api.ErrSyntax)
		case "=":
			wantKeyValue(t, s, fields("a", "b=1"))
		default:
			got, gotErr := parse.KeyValue(s)
			wantResult(t, "KeyValue", s, got, gotErr, l, err)
		}
	}
}

func TestNamesOfPairsThatOccurTwice(t *testing.T) {
	wantKeyValueError(t, `a=1 a=1`, api.ErrTwice)
	wantKeyValueError(t, `a=1 b=2 a="3"`, api.ErrTwice)
	wantKeyValue(t, `a=1 A=2`, fields("A", "2", "a", "1"))
}

func TestMostPairs(t *testing.T) {
	names := numbered(api.MaxFields)
	var s strings.Builder
	for i, f := range named(names...) {
		s.WriteString(f.Name + "=" + f.Value + strings.Repeat(" ", i%3+1))
	}
	wantKeyValue(t, s.String(), named(names...))
	wantKeyValueError(t, s.String()+"a=", api.ErrTooMany)
	wantKeyValueError(t, s.String()+"a= b= c=", api.ErrTooMany)
	wantKeyValueError(t, s.String()+"a", api.ErrSyntax)
}

// ErrSyntax comes before the errors of Sort, wherever it is.
func TestFirstErrorOfKeyValue(t *testing.T) {
	wantKeyValueError(t, `1=2 a`, api.ErrSyntax)
	wantKeyValueError(t, `a=1 a=1 b`, api.ErrSyntax)
	wantKeyValueError(t, `=1 a="`, api.ErrSyntax)
	wantKeyValueError(t, repeated(100, "a=1", " ")+" a", api.ErrSyntax)
	wantKeyValueError(t, repeated(100, "=", " ")+` ="x"y`, api.ErrSyntax)
	wantKeyValueError(t, repeated(33, "=", " "), api.ErrTooMany)
	wantKeyValueError(t, repeated(32, "=", " "), api.ErrName)
	wantKeyValueError(t, repeated(32, "a=", " "), api.ErrTwice)
	wantKeyValueError(t, repeated(33, "a=", " "), api.ErrTooMany)
	wantKeyValueError(t, `a= a= 1=`, api.ErrName)
}

// KeyValue has no limit for its argument.
func TestLongPairs(t *testing.T) {
	const long = 1 << 22
	value := strings.Repeat("x ", long/2)
	wantKeyValue(t, `b="`+value+`" a=`+strings.ReplaceAll(value, " ", "y"), fields("a", strings.Repeat("xy", long/2), "b", value))
	wantKeyValue(t, strings.Repeat(" ", long)+"a=1"+strings.Repeat(" ", long), fields("a", "1"))
	wantKeyValue(t, `a="`+strings.Repeat(`\"\\`, long/4)+`"`, fields("a", strings.Repeat(`"\`, long/4)))
	wantKeyValueError(t, strings.Repeat("a", long)+"=", api.ErrName)
	wantKeyValueError(t, strings.Repeat("a= ", long/3), api.ErrTooMany)
	wantKeyValueError(t, strings.Repeat("= ", long/2)+"x", api.ErrSyntax)
	wantKeyValueError(t, strings.Repeat("a ", long/2)+"=", api.ErrSyntax)
	wantKeyValueError(t, `a="`+strings.Repeat("x", long), api.ErrSyntax)
}

func TestAllShortPairs(t *testing.T) {
	good := 0
	for s := range texts(7, "a", "=", " ", `"`, `\`) {
		want, wantErr := keyValueByDefinition(s)
		got, err := parse.KeyValue(s)
		wantResult(t, "KeyValue", s, got, err, want, wantErr)
		if err == api.OK && len(got) > 0 {
			good++
		}
		if t.Failed() {
			return
		}
	}
	if good < 1000 {
		t.Errorf("only %d texts have fields", good)
	}
}

func TestChangesOfPairs(t *testing.T) {
	for _, s := range []string{`b=2 a="x\" \\y"  c=z`, ` a="" b= `, `a=1 bb=2 ab="="`} {
		for changed := range changes(s) {
			want, wantErr := keyValueByDefinition(changed)
			got, err := parse.KeyValue(changed)
			wantResult(t, "KeyValue", changed, got, err, want, wantErr)
		}
	}
}
