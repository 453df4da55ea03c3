package natural

func (k *kernel) assume(d Derivation) Formula {
	require(d.Index >= 0 && d.Index < len(k.assumptions), ErrAssume)
	return k.assumptions[len(k.assumptions)-1-d.Index]
}

func (k *kernel) axiom(d Derivation) Formula {
	require(d.Index >= 0 && d.Index < len(k.theory), ErrAssume)
	return k.theory[d.Index]
}

func (k *kernel) impliesIn(d Derivation) Formula {
	return joined{Implies, d.Formula, k.kid(d, 0, d.Formula)}.formula()
}

func (k *kernel) impliesOut(d Derivation) Formula {
	implication, premise := k.kid(d, 0), k.kid(d, 1)
	first, second := joinedBy(Implies, implication)
	equal(first, premise)
	return second
}

func (k *kernel) andIn(d Derivation) Formula {
	first, second := k.kid(d, 0), k.kid(d, 1)
	return joined{And, first, second}.formula()
}

func (k *kernel) andFirst(d Derivation) Formula {
	first, _ := joinedBy(And, k.kid(d, 0))
	return first
}

func (k *kernel) andSecond(d Derivation) Formula {
	_, second := joinedBy(And, k.kid(d, 0))
	return second
}

func (k *kernel) orFirst(d Derivation) Formula {
	return joined{Or, k.kid(d, 0), d.Formula}.formula()
}

func (k *kernel) orSecond(d Derivation) Formula {
	return joined{Or, d.Formula, k.kid(d, 0)}.formula()
}

func (k *kernel) orOut(d Derivation) Formula {
	first, second := joinedBy(Or, k.kid(d, 0))
	f := k.kid(d, 1, first)
	equal(f, k.kid(d, 2, second))
	return f
}

func (k *kernel) falseOut(d Derivation) Formula {
	equal(k.kid(d, 0), falsity{}.formula())
	return d.Formula
}

func (k *kernel) classic(d Derivation) Formula {
	contradiction := falsity{}.formula()
	equal(k.kid(d, 0, joined{Implies, d.Formula, contradiction}.formula()), contradiction)
	return d.Formula
}

func (k *kernel) allIn(d Derivation) Formula {
	f := k.kid(d, 0)
	k.fresh(d.Name)
	return k.made(abstract(All, f, d.Name))
}

func (k *kernel) allOut(d Derivation) Formula {
	return k.made(instance(boundBy(All, k.kid(d, 0)).part, d.Term))
}

func (k *kernel) someIn(d Derivation) Formula {
	f := k.kid(d, 0)
	// An instance that is too large is not what the Kid concludes.
	other, ok := instance(boundBy(Some, d.Formula).part, d.Term)
	require(ok, ErrPremise)
	equal(f, other)
	return d.Formula
}

func (k *kernel) someOut(d Derivation) Formula {
	f := k.kid(d, 0)
	b := boundBy(Some, f)
	k.fresh(d.Name, f)
	result := k.kid(d, 1, k.made(instance(b.part, Term{Name: d.Name})))
	k.fresh(d.Name, result)
	return result
}

func (k *kernel) reflexive(d Derivation) Formula { return equation{d.Term, d.Term}.formula() }

func (k *kernel) replace(d Derivation) Formula {
	f, g := k.kid(d, 0), k.kid(d, 1)
	s, _ := sentenceOf(f)
	e, ok := s.(equation)
	require(ok, ErrPremise)
	other, ok := instance(d.Formula, e.left)
	require(ok, ErrPremise)
	equal(g, other)
	return k.made(instance(d.Formula, e.right))
}
