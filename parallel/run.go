package parallel

import (
	"sync"

	"apodixis/api"
	"apodixis/verify"
)

// run is a run over theorems, as far as it has come.
type run struct {
	db                api.Database
	frames            []int // the theorems that the budget allows
	workers, failures int
	results           []Result
	failed            int
}

// newRun returns a run that has verified nothing.
func newRun(db api.Database, frames []int, o Options) *run {
	r := &run{db: db, frames: frames, workers: o.Workers, failures: o.Failures}
	if o.Budget >= 0 {
		r.frames = affordable(db, frames, o.Budget)
	}
	return r
}

// affordable returns the theorems ahead of the first one whose cost is above what is left of a budget.
func affordable(db api.Database, frames []int, budget int) []int {
	for n, i := range frames {
		budget -= cost(db.Frames[i].Proof)
		if budget < 0 {
			return frames[:n]
		}
	}
	return frames
}

// all returns the report of a whole run.
func all(db api.Database, frames []int, o Options) Report {
	r := newRun(db, frames, o)
	r.extend(len(r.frames), nil)
	return report(r.results)
}

// report returns the report of the first results of a run.
func report(results []Result) Report {
	r := Report{Next: len(results)}
	for _, x := range results {
		r.Results = append(r.Results, x)
		r.Used += x.Steps
		if x.Verdict.Code != api.OK {
			r.Failed++
		}
	}
	return r
}

// hasEnded reports whether so many theorems have failed that no other one is verified.
func (r *run) hasEnded() bool { return r.failures > 0 && r.failed == r.failures }

// answer is the verdict that a worker has found of the theorem at a place of the list.
type answer struct {
	place   int
	verdict api.Verdict
}

// extend verifies theorems until there are so many results, or the run ends, or it is cancelled. All workers have ended when it returns.
func (r *run) extend(count int, cancelled <-chan struct{}) {
	next, last := len(r.results), min(count, len(r.frames))
	work, answers := make(chan int), make(chan answer)
	var workers sync.WaitGroup
	for range min(r.workers, last-next) {
		workers.Add(1)
		go func() {
			defer workers.Done()
			serve(r.db, r.frames, work, answers)
		}()
	}
	found := map[int]api.Verdict{} // those that wait for one ahead of them
	busy := 0
	offer := work // nil, as soon as no other theorem is to be verified
	for {
		if next >= last || r.hasEnded() {
			offer = nil
		}
		if offer == nil && busy == 0 {
			break
		}
		select {
		case offer <- next:
			next++
			busy++
		case a := <-answers:
			busy--
			found[a.place] = a.verdict
			r.collect(found)
		case <-cancelled:
			offer, cancelled = nil, nil // workers still give their answers
		}
	}
	close(work)
	workers.Wait()
}

// serve is a worker: it verifies the theorems at the places that it receives.
func serve(db api.Database, frames []int, work <-chan int, answers chan<- answer) {
	for place := range work {
		answers <- answer{place, verdictOf(db, frames[place])}
	}
}

// collect makes results of verdicts, as far as there are those of all theorems ahead.
func (r *run) collect(found map[int]api.Verdict) {
	for !r.hasEnded() {
		place := len(r.results)
		v, ok := found[place]
		if !ok {
			return
		}
		delete(found, place)
		i := r.frames[place]
		r.results = append(r.results, Result{Frame: i, Verdict: v, Steps: cost(r.db.Frames[i].Proof)})
		if v.Code != api.OK {
			r.failed++
		}
	}
}

// verdictOf returns the verdict of a theorem. The database that verify checks for it has no assertions but those that the proof names: with all of them, the checks would take longer than the proofs.
func verdictOf(db api.Database, i int) api.Verdict {
	named := map[string]bool{}
	for _, w := range db.Frames[i].Proof {
		named[w] = true
	}
	part := api.Database{Constants: db.Constants, Variables: db.Variables}
	for _, f := range db.Frames[:i] {
		if named[f.Label] {
			f.Theorem, f.Proof = false, nil
			part.Frames = append(part.Frames, f)
		}
	}
	part.Frames = append(part.Frames, db.Frames[i])
	v, _ := verify.Theorem(part, len(part.Frames)-1)
	return v
}
