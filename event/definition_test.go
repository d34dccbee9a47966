package event_test

import (
	"encoding/binary"
	"math/big"
	"slices"

	"logtide/api"
	"logtide/parse"
)

// The promises, written with other means than the program: exact sums by big numbers, bytes by encoding/binary, and a checksum as a polynomial.

// A finding is an error and whether it applies.
type finding struct {
	applies bool
	err     api.Errno
}

// first returns the first error that applies.
func first(findings []finding) api.Errno {
	for _, f := range findings {
		if f.applies {
			return f.err
		}
	}
	return api.OK
}

func outside(n, least, most int) bool { return n < least || n > most }

func placeFindings(e api.Event) []finding {
	return []finding{{outside(e.Host, 0, 999), api.ErrRange}, {outside(e.File, 0, 1<<31-2), api.ErrRange}, {e.From < 0, api.ErrRange}, {e.To <= e.From, api.ErrRange}, {e.To > 60000, api.ErrRange}}
}

func sum(a, b int) *big.Int { return new(big.Int).Add(big.NewInt(int64(a)), big.NewInt(int64(b))) }

func lineFindings(e api.Event, texts bool) []finding {
	findings := []finding{{len(e.Lines) < 1, api.ErrMissing}, {len(e.Lines) > 40, api.ErrTooMany}}
	before := sum(e.From, 0)
	for k, l := range e.Lines {
		end := sum(l.Offset, l.Length)
		to := sum(e.To, 0)
		findings = append(findings,
			finding{sum(l.Offset, 0).Cmp(before) != 0, api.ErrOrder},
			finding{l.Length < 1, api.ErrOrder},
			finding{end.Cmp(to) > 0, api.ErrOrder},
			finding{k == len(e.Lines)-1 && end.Cmp(to) != 0, api.ErrOrder},
			finding{texts && len(l.Text) > 2000, api.ErrTooLong},
			finding{!texts && len(l.Text) > 0, api.ErrOrder})
		before = end
	}
	return findings
}

func weights() []int {
	var l []int
	for n := 1; n <= 5040; n++ {
		if 5040/n*n == 5040 {
			l = append(l, n)
		}
	}
	return l
}

var allWeights = weights()

func checkByDefinition(e api.Event) api.Errno {
	findings := append(placeFindings(e), finding{outside(e.Time, 0, 253402300799999), api.ErrRange}, finding{!slices.Contains(allWeights, e.Weight), api.ErrWeight})
	findings = append(findings, lineFindings(e, true)...)
	_, sortError := parse.Sort(e.Fields)
	findings = append(findings, finding{len(e.Trace) > 32, api.ErrTooLong}, finding{len(e.Stream) > 32, api.ErrTooLong}, finding{sortError != api.OK, sortError})
	for k := 1; k < len(e.Fields); k++ {
		findings = append(findings, finding{e.Fields[k].Name <= e.Fields[k-1].Name, api.ErrOrder})
	}
	for _, f := range e.Fields {
		findings = append(findings, finding{len(f.Value) > 2000, api.ErrTooLong})
	}
	return first(findings)
}

func checkItemByDefinition(i api.Item) api.Errno {
	if i.Rule == "" {
		return checkByDefinition(i.Event)
	}
	e := i.Event
	findings := append([]finding{{len(i.Rule) > 32, api.ErrTooLong}}, placeFindings(e)...)
	findings = append(findings, lineFindings(e, false)...)
	return first(append(findings, finding{e.Time != 0 || e.Weight != 0 || e.Trace+e.Stream != "" || len(e.Fields) != 0, api.ErrOrder}))
}

func lessByDefinition(a, b api.Event) bool {
	return slices.Compare([]int{a.Time, a.Host, a.File, a.From}, []int{b.Time, b.Host, b.File, b.From}) < 0
}

func afterByDefinition(i api.Item, mark int) (api.Item, bool) {
	if mark <= i.Event.From {
		return i, true
	}
	later := slices.DeleteFunc(slices.Clone(i.Event.Lines), func(l api.Line) bool { return l.Offset < mark })
	if mark >= i.Event.To || len(later) == 0 {
		return api.Item{}, false
	}
	i.Event.Lines, i.Event.From = later, later[0].Offset
	return i, true
}

// checksumByDefinition adds the bytes times powers of 31; the 1 with which the checksum begins is one more byte before them.
func checksumByDefinition(b []byte) int64 {
	total, power := new(big.Int), big.NewInt(1)
	prime := big.NewInt(4294967291)
	for k := len(b) - 1; k >= -1; k-- {
		digit := int64(1)
		if k >= 0 {
			digit = int64(b[k])
		}
		total.Add(total, new(big.Int).Mul(power, big.NewInt(digit)))
		power.Mul(power, big.NewInt(31)).Mod(power, prime)
	}
	return total.Mod(total, prime).Int64()
}

func appendInts(b []byte, numbers ...int) []byte {
	for _, n := range numbers {
		b = binary.BigEndian.AppendUint64(b, uint64(int64(n)))
	}
	return b
}

func appendLength(b []byte, n int) []byte { return binary.BigEndian.AppendUint32(b, uint32(n)) }

func appendText(b []byte, s string) []byte { return append(appendLength(b, len(s)), s...) }

// bodyByDefinition returns the bytes of an item without their number and their checksum. The item may be a wrong one.
func bodyByDefinition(i api.Item) string {
	e := i.Event
	b := appendInts(appendText(nil, i.Rule), e.Host, e.File, e.From, e.To)
	b = appendLength(b, len(e.Lines))
	for _, l := range e.Lines {
		b = appendText(appendInts(b, l.Offset, l.Length), l.Text)
	}
	b = appendText(appendText(appendInts(b, e.Time, e.Weight), e.Trace), e.Stream)
	b = appendLength(b, len(e.Fields))
	for _, f := range e.Fields {
		b = appendText(appendText(b, f.Name), f.Value)
	}
	return string(b)
}

// A missing is thrown where bytes are missing.
type missing struct{}

// scanner takes bytes from the front of a string.
type scanner string

func (s *scanner) next(count int) string {
	if count > len(*s) {
		panic(missing{})
	}
	taken := (*s)[:count]
	*s = (*s)[count:]
	return string(taken)
}

func (s *scanner) length() int  { return int(binary.BigEndian.Uint32([]byte(s.next(4)))) }
func (s *scanner) integer() int { return int(int64(binary.BigEndian.Uint64([]byte(s.next(8))))) }
func (s *scanner) text() string { return s.next(s.length()) }

// itemByDefinition returns the item with this body, and false if there is none.
func itemByDefinition(body string) (i api.Item, ok bool) {
	defer func() {
		if thrown := recover(); thrown != nil {
			i, ok = api.Item{}, false
		}
	}()
	s := scanner(body)
	i.Rule = s.text()
	e := &i.Event
	e.Host, e.File, e.From, e.To = s.integer(), s.integer(), s.integer(), s.integer()
	for range s.length() {
		e.Lines = append(e.Lines, api.Line{Offset: s.integer(), Length: s.integer(), Text: s.text()})
	}
	e.Time, e.Weight = s.integer(), s.integer()
	e.Trace, e.Stream = s.text(), s.text()
	for range s.length() {
		e.Fields = append(e.Fields, api.Field{Name: s.text(), Value: s.text()})
	}
	if s != "" {
		return api.Item{}, false
	}
	return i, true
}

func decodeByDefinition(b []byte) (api.Item, int, api.Errno) {
	if len(b) < 4 {
		return api.Item{}, 0, api.ErrShort
	}
	size := int(binary.BigEndian.Uint32(b))
	if size < 4 || size > len(b)-4 {
		return api.Item{}, 0, api.ErrShort
	}
	if int64(binary.BigEndian.Uint32(b[size:])) != checksumByDefinition(b[:size]) {
		return api.Item{}, 0, api.ErrChecksum
	}
	i, ok := itemByDefinition(string(b[4:size]))
	if !ok || checkItemByDefinition(i) != api.OK {
		return api.Item{}, 0, api.ErrSyntax
	}
	return i, size + 4, api.OK
}

func sameByDefinition(a, b api.Item) bool { return bodyByDefinition(a) == bodyByDefinition(b) }
