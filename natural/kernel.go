package natural

import (
	"slices"

	"apodixis/api"
	"apodixis/token"
)

// Fields of a node that a rule uses.
const (
	usesFormula = 1 << iota
	usesTemplate
	usesTerm
	usesName
)

// rule says how many Kids a rule has, which fields it uses, and what it concludes.
type rule struct {
	kids, uses int
	conclude   func(*kernel, Derivation) Formula
}

// rules returns the rules by their numbers.
func rules() [LastRule + 1]rule {
	return [LastRule + 1]rule{
		Assume:     {0, 0, (*kernel).assume},
		Axiom:      {0, 0, (*kernel).axiom},
		ImpliesIn:  {1, usesFormula, (*kernel).impliesIn},
		ImpliesOut: {2, 0, (*kernel).impliesOut},
		AndIn:      {2, 0, (*kernel).andIn},
		AndFirst:   {1, 0, (*kernel).andFirst},
		AndSecond:  {1, 0, (*kernel).andSecond},
		OrFirst:    {1, usesFormula, (*kernel).orFirst},
		OrSecond:   {1, usesFormula, (*kernel).orSecond},
		OrOut:      {3, 0, (*kernel).orOut},
		FalseOut:   {1, usesFormula, (*kernel).falseOut},
		Classic:    {1, usesFormula, (*kernel).classic},
		AllIn:      {1, usesName, (*kernel).allIn},
		AllOut:     {1, usesTerm, (*kernel).allOut},
		SomeIn:     {1, usesFormula | usesTerm, (*kernel).someIn},
		SomeOut:    {2, usesName, (*kernel).someOut},
		Reflexive:  {0, usesTerm, (*kernel).reflexive},
		Replace:    {2, usesTemplate, (*kernel).replace},
	}
}

// kernel checks a derivation: path leads to the node where it is, and used counts the formulas of the theory and the assumptions that have a parameter.
type kernel struct {
	rules       [LastRule + 1]rule
	theory      []Formula
	assumptions []Formula
	used        map[string]int
	path        []int
}

// refusal leaves a derivation at the node that the path leads to.
type refusal struct{ code api.Errno }

// newKernel returns a kernel for formulas that are well-formed.
func newKernel(theory, assumptions []Formula) *kernel {
	k := &kernel{rules: rules(), theory: theory, used: map[string]int{}}
	for _, f := range theory {
		k.count(f, 1)
	}
	for _, f := range assumptions {
		k.open(f)
	}
	return k
}

// count counts a formula more, or one less, that has its parameters.
func (k *kernel) count(f Formula, by int) {
	for _, name := range Free(f) {
		k.used[name] += by
	}
}

// open adds an assumption; shut takes the last one away.
func (k *kernel) open(f Formula) {
	k.assumptions = append(k.assumptions, f)
	k.count(f, 1)
}

func (k *kernel) shut() {
	last := len(k.assumptions) - 1
	k.count(k.assumptions[last], -1)
	k.assumptions = k.assumptions[:last]
}

// run returns the conclusion of a derivation, or the path of the first node with an error.
func (k *kernel) run(d Derivation) (f Formula, path []int, e api.Errno) {
	defer func() {
		switch x := recover().(type) {
		case nil:
		case refusal:
			f, path, e = Formula{}, k.path, x.code
		default:
			f, path, e = Formula{}, k.path, ErrRule // whatever else stops the kernel, it accepts nothing
		}
	}()
	return copied(k.derive(d)), nil, api.OK
}

// derive returns the conclusion of the node that the path leads to.
func (k *kernel) derive(d Derivation) Formula {
	require(d.Rule >= 1 && d.Rule <= LastRule && len(d.Kids) == k.rules[d.Rule].kids, ErrRule)
	r := k.rules[d.Rule]
	accept(d.errorOf(r.uses))
	f := r.conclude(k, d)
	require(fits(node{formula: &f}), api.ErrLarge)
	return f
}

// errorOf returns the error of the fields that are used.
func (d Derivation) errorOf(uses int) api.Errno {
	var e api.Errno
	switch {
	case uses&usesFormula != 0:
		e = Well(d.Formula)
	case uses&usesTemplate != 0:
		e = errorOf(node{formula: &d.Formula, binders: 1})
	}
	if e == api.OK && uses&usesTerm != 0 {
		e = errorOf(node{term: &d.Term})
	}
	if e == api.OK && uses&usesName != 0 && !token.IsSymbol(d.Name) {
		e = api.ErrForm
	}
	return e
}

// kid returns the conclusion of a Kid under further assumptions.
func (k *kernel) kid(d Derivation, n int, further ...Formula) Formula {
	k.path = append(k.path, n)
	for _, f := range further {
		k.open(f)
	}
	f := k.derive(d.Kids[n])
	for range further {
		k.shut()
	}
	k.path = k.path[:len(k.path)-1]
	return f
}

// accept leaves with an error, require with one if something does not hold.
func accept(e api.Errno) {
	if e != api.OK {
		panic(refusal{e})
	}
}

func require(holds bool, e api.Errno) {
	if !holds {
		panic(refusal{e})
	}
}

// equal leaves, if two formulas that a rule names alike differ.
func equal(a, b Formula) { require(Same(a, b), ErrPremise) }

// joinedBy returns the parts of a conclusion that has to be of a kind.
func joinedBy(kind int, f Formula) (first, second Formula) {
	s, _ := sentenceOf(f)
	j, ok := s.(joined)
	require(ok && j.kind == kind, ErrPremise)
	return j.first, j.second
}

// boundBy returns a formula that has to be of a kind.
func boundBy(kind int, f Formula) bound {
	b, ok := quantified(f)
	require(ok && b.kind == kind, ErrPremise)
	return b
}

// made returns a formula that a rule makes, if it is well-formed.
func (k *kernel) made(f Formula, ok bool) Formula {
	require(ok, api.ErrLarge)
	return f
}

// fresh leaves, if a name is a parameter of the theory, of an assumption, or of further formulas.
func (k *kernel) fresh(name string, further ...Formula) {
	require(k.used[name] == 0, ErrFresh)
	for _, f := range further {
		_, occurs := slices.BinarySearch(Free(f), name)
		require(!occurs, ErrFresh)
	}
}
