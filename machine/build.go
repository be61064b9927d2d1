package machine

import (
	"slices"

	"chiasmus/api"
	"chiasmus/code"
	"chiasmus/term"
)

// builder builds a result in the heap, from the left to the right.
type builder struct {
	heap   heap
	values map[string]piece // of the variables
	open   []*bracket       // those that are not closed yet, with their pieces in order; the first one stands for the result itself
	plain  []api.Term       // terms without calls that are no piece yet
}

func newBuilder(h heap, values map[string]piece) *builder {
	return &builder{heap: h, values: values, open: []*bracket{{}}}
}

// built returns the pieces of the result, in order.
func (b *builder) built() []piece {
	b.flush()
	return b.open[0].rest
}

// flush makes a piece of the terms that are none.
func (b *builder) flush() {
	p := b.heap.put(b.plain)
	b.plain = b.plain[:0]
	b.add(p)
}

func (b *builder) innermost() *bracket { return b.open[len(b.open)-1] }

func (b *builder) add(p piece) {
	if !p.isEmpty() {
		top := b.innermost()
		top.rest = append(top.rest, p)
	}
}

// instructions follows those of a rule.
func (b *builder) instructions(l []code.Ins) {
	for _, i := range l {
		switch i.Kind {
		case code.Put:
			b.plain = append(b.plain, i.Symbol)
		case code.Begin:
			b.begin(api.Group, "")
		case code.Call:
			b.begin(api.Call, i.Text)
		case code.End, code.Stop:
			b.end()
		case code.Move:
			b.flush()
			b.add(b.values[i.Text])
		case code.Copy:
			b.flush()
			b.add(b.heap.copy(b.values[i.Text]))
		}
	}
}

// terms puts an expression.
func (b *builder) terms(l []api.Term) {
	for _, t := range l {
		if !term.Calls([]api.Term{t}) {
			b.plain = append(b.plain, t)
			continue
		}
		b.begin(t.Kind, t.Text)
		b.terms(t.Kids)
		b.end()
	}
}

func (b *builder) begin(kind int, text string) {
	b.flush()
	b.open = append(b.open, &bracket{kind: kind, text: text})
}

// end closes the innermost bracket. A group without calls is done with.
func (b *builder) end() {
	b.flush()
	top := b.innermost()
	b.open = b.open[:len(b.open)-1]
	if top.kind == api.Group && !slices.ContainsFunc(top.rest, func(p piece) bool { return p.inner != nil }) {
		b.add(b.heap.group(top.rest))
		return
	}
	slices.Reverse(top.rest)
	b.add(piece{inner: top})
}
