package event

import "logtide/api"

// A visitor is led through the parts of an item, in the order in which they are encoded: it encodes or decodes them.
type visitor interface {
	number(n *int)
	text(s *string)
	count(elements int) int // how many elements the list has that is visited; elements are there already
	broken() bool           // there is no use in going on
}

// visitItem describes how an item is encoded.
func visitItem(v visitor, i *api.Item) {
	v.text(&i.Rule)
	visitEvent(v, &i.Event)
}

func visitEvent(v visitor, e *api.Event) {
	v.number(&e.Host)
	v.number(&e.File)
	v.number(&e.From)
	v.number(&e.To)
	visitList(v, &e.Lines, visitLine)
	v.number(&e.Time)
	v.number(&e.Weight)
	v.text(&e.Trace)
	v.text(&e.Stream)
	visitList(v, &e.Fields, visitField)
}

func visitLine(v visitor, l *api.Line) {
	v.number(&l.Offset)
	v.number(&l.Length)
	v.text(&l.Text)
}

func visitField(v visitor, f *api.Field) {
	v.text(&f.Name)
	v.text(&f.Value)
}

// visitList visits the elements of a list. Those that are not there yet are added one by one, so that a wrong length costs no memory.
func visitList[T any](v visitor, l *[]T, visit func(visitor, *T)) {
	count := v.count(len(*l))
	for k := 0; k < count && !v.broken(); k++ {
		if k == len(*l) {
			var added T
			*l = append(*l, added)
		}
		visit(v, &(*l)[k])
	}
}
