package parse_test

import (
	"regexp"
	"slices"
	"sort"
	"strconv"
	"strings"

	"logtide/api"
	"logtide/matcher"
)

// The functions of this file are the promises, written with other means than the package has: regular expressions, and a reduction of the tokens of JSON. The tests compare the package with them.

var namePattern = regexp.MustCompile(`^[A-Za-z_][A-Za-z0-9_.]{0,31}$`)

// sortByDefinition is Sort of P11.1.
func sortByDefinition(l []api.Field) ([]api.Field, api.Errno) {
	if len(l) > 32 {
		return nil, api.ErrTooMany
	}
	values := map[string]string{}
	for _, f := range l {
		if !namePattern.MatchString(f.Name) {
			return nil, api.ErrName
		}
		values[f.Name] = f.Value
	}
	if len(values) < len(l) {
		return nil, api.ErrTwice
	}
	var names []string
	for name := range values {
		names = append(names, name)
	}
	sort.Strings(names)
	var sorted []api.Field
	for _, name := range names {
		sorted = append(sorted, api.Field{Name: name, Value: values[name]})
	}
	return sorted, api.OK
}

// A pair, and what follows it.
var pairPattern = regexp.MustCompile(`^([^ =]*)=(?:([^ "]*)|"((?:[^"\\]|\\["\\])*)")(?: +|$)`)

// keyValueByDefinition is P11.2.
func keyValueByDefinition(s string) ([]api.Field, api.Errno) {
	var l []api.Field
	for s = strings.TrimLeft(s, " "); s != ""; {
		found := pairPattern.FindStringSubmatch(s)
		if found == nil {
			return nil, api.ErrSyntax
		}
		quoted := strings.NewReplacer(`\\`, `\`, `\"`, `"`).Replace(found[3])
		l = append(l, api.Field{Name: found[1], Value: found[2] + quoted})
		s = s[len(found[0]):]
	}
	return sortByDefinition(l)
}

// delimitedByDefinition is P11.3.
func delimitedByDefinition(s string, sep byte) ([]string, api.Errno) {
	if strings.IndexByte("\"\n\r", sep) >= 0 {
		return nil, api.ErrRange
	}
	// A regular expression takes runes, which are not bytes for all separators.
	s = latin(s)
	separator := `\x{` + strconv.FormatInt(int64(sep), 16) + `}`
	field := regexp.MustCompile(`^(?:"((?:[^"]|"")*)"|(|[^"` + separator + `][^` + separator + `]*))(` + separator + `|$)`)
	var l []string
	for {
		found := field.FindStringSubmatch(s)
		if found == nil {
			return nil, api.ErrSyntax
		}
		l = append(l, bytesOf(strings.ReplaceAll(found[1], `""`, `"`)+found[2]))
		s = s[len(found[0]):]
		if found[3] == "" {
			break
		}
	}
	if len(l) > 32 {
		return nil, api.ErrTooMany
	}
	return l, api.OK
}

// latin returns a string with a rune for each byte of s.
func latin(s string) string {
	var runes []rune
	for _, c := range []byte(s) {
		runes = append(runes, rune(c))
	}
	return string(runes)
}

// bytesOf is the inverse of latin.
func bytesOf(s string) string {
	var b []byte
	for _, r := range s {
		b = append(b, byte(r))
	}
	return string(b)
}

// A token: punctuation, a string, or another scalar.
var tokenPattern = regexp.MustCompile(`^[ \t]*(?:([{}:,])|"((?:[^"\\\x00-\x1f]|\\["\\/ntr])*)"|(-?(?:0|[1-9][0-9]*)|true|false|null))[ \t]*`)

// A token of JSON: its kind is '{', '}', ':', ',', 's' for a string, or 'v' for another scalar.
type token struct {
	kind byte
	text string
}

// tokensOf returns the tokens of s, and false if it has others.
func tokensOf(s string) ([]token, bool) {
	var l []token
	for s != "" {
		found := tokenPattern.FindStringSubmatch(s)
		if found == nil {
			return nil, false
		}
		s = s[len(found[0]):]
		switch {
		case found[1] != "":
			l = append(l, token{kind: found[1][0]})
		case found[3] != "":
			l = append(l, token{'v', strings.TrimPrefix(found[3], "null")})
		default:
			text := strings.NewReplacer(`\"`, `"`, `\\`, `\`, `\/`, `/`, `\n`, "\n", `\t`, "\t", `\r`, "\r").Replace(found[2])
			l = append(l, token{'s', text})
		}
	}
	return l, true
}

// An object without objects in it, as kinds of tokens.
var objectPattern = regexp.MustCompile(`\{(?:s:[sv](?:,s:[sv])*)?\}`)

// isObject reports whether tokens are an object: objects are replaced by scalars from the innermost on.
func isObject(l []token) bool {
	var b []byte
	for _, x := range l {
		b = append(b, x.kind)
	}
	if len(b) == 0 || b[0] != '{' {
		return false
	}
	for kinds := string(b); ; {
		replaced := objectPattern.ReplaceAllString(kinds, "v")
		if replaced == kinds {
			return kinds == "v"
		}
		kinds = replaced
	}
}

// isTooDeep reports whether there is a '{' too many in s, before which there is nothing wrong: something shallower there could be completed to an object.
func isTooDeep(s string) bool {
	for at := range len(s) {
		if s[at] != '{' || strings.Count(s[:at], "{") < 9 {
			continue
		}
		if l, ok := tokensOf(s[:at] + "null" + strings.Repeat("}", 9)); ok && isObject(l) {
			return true
		}
	}
	return false
}

// jsonByDefinition is P11.4.
func jsonByDefinition(s string) ([]api.Field, api.Errno) {
	if isTooDeep(s) {
		return nil, api.ErrDeep
	}
	tokens, ok := tokensOf(s)
	if !ok || !isObject(tokens) {
		return nil, api.ErrSyntax
	}
	var l []api.Field
	var path []string
	for i, x := range tokens {
		switch {
		case x.kind == 's' && tokens[i+1].kind == ':':
			path = append(path, x.text)
		case x.kind == 's' || x.kind == 'v':
			l = append(l, api.Field{Name: strings.Join(path, "."), Value: x.text})
			path = path[:len(path)-1]
		case x.kind == '}' && len(path) > 0:
			path = path[:len(path)-1]
		}
	}
	return sortByDefinition(l)
}

// parseByDefinition is P11.5.
func parseByDefinition(format int, source api.Node, s string) ([]api.Field, api.Errno) {
	if format >= 0 && format <= 4 && len(s) > 20000 {
		return nil, api.ErrTooLong
	}
	switch format {
	case 0:
		return nil, api.OK
	case 1:
		return keyValueByDefinition(s)
	case 2:
		values, err := delimitedByDefinition(s, ',')
		var l []api.Field
		for i, value := range values {
			l = append(l, api.Field{Name: "f" + strconv.Itoa(i+1), Value: value})
		}
		slices.SortFunc(l, func(a, b api.Field) int { return strings.Compare(a.Name, b.Name) })
		return l, err
	case 3:
		return jsonByDefinition(s)
	case 4:
		m, found := matcher.Find(source, s, 0)
		if !found {
			return nil, api.ErrNoMatch
		}
		var l []api.Field
		for _, g := range m.Groups {
			value, _ := matcher.Value(m, s, g.Name)
			l = append(l, api.Field{Name: g.Name, Value: value})
		}
		return sortByDefinition(l)
	}
	return nil, api.ErrRange
}
