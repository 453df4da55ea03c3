package carry

import "apodixis/book"

// guess returns the logic whose fields are found one after the other, each by the first assertion that fits.
func guess(b *book.Book) Logic {
	var l Logic
	for _, step := range [...]struct {
		field int
		open  string
	}{
		{mp, ">"}, {gen, "A"}, {refl, "="}, {eucl, "="}, {transp, "~"}, {simp, ""}, {frege, ""}, {dist, ""}, {vacuous, ""}, {spec, ""},
	} {
		l = found(b, l, step.field, step.open)
	}
	return l
}

// found returns a logic with one more field, and what the form of this has.
func found(b *book.Book, l Logic, field int, open string) Logic {
	for _, f := range b.Database.Frames {
		m := matcher{book: b, logic: l, open: open, holes: map[byte]string{}}
		if m.fits(field, f) {
			*m.logic.assertions()[field] = f.Label
			return m.logic
		}
	}
	return l
}
