package parallel

import (
	"slices"
	"sync"

	"apodixis/api"
)

// Job is a run whose results are taken one by one. Copies of a job are the same one.
type Job struct {
	*progress
	cancelled chan struct{} // closed by Cancel
}

// progress is what has been done of a job.
type progress struct {
	lock   sync.Mutex // for all but ending
	run    *run
	given  int // the results that Next has returned
	ending sync.Once
}

// Start begins a run over all theorems.
func Start(db api.Database, o Options) (*Job, api.Errno) {
	if e := check(db, o); e != api.OK {
		return nil, e
	}
	// Next verifies later, so that the database is copied.
	r := newRun(copied(db), theorems(db), o)
	return &Job{progress: &progress{run: r}, cancelled: make(chan struct{})}, api.OK
}

func (j *Job) isStarted() bool { return j != nil && j.progress != nil }

// Next returns the next result; false, if there is none, or the job was cancelled.
func (j *Job) Next() (Result, bool) {
	if !j.isStarted() {
		return Result{}, false
	}
	j.lock.Lock()
	defer j.lock.Unlock()
	if j.given == len(j.run.results) && !j.isCancelled() {
		j.run.extend(j.given+j.run.workers, j.cancelled)
	}
	if j.given == len(j.run.results) || j.isCancelled() {
		return Result{}, false
	}
	j.given++
	return j.run.results[j.given-1], true
}

func (j *Job) isCancelled() bool {
	select {
	case <-j.cancelled:
		return true
	default:
		return false
	}
}

// Cancel ends a job: no result is returned any more.
func (j *Job) Cancel() {
	if j.isStarted() {
		j.ending.Do(func() { close(j.cancelled) })
	}
}

// Report returns what was returned by Next so far.
func (j *Job) Report() Report {
	if !j.isStarted() {
		return Report{}
	}
	j.lock.Lock()
	defer j.lock.Unlock()
	return report(j.run.results[:j.given])
}

// Same reports whether two jobs are the same one.
func (j *Job) Same(k *Job) bool {
	if j == nil || k == nil {
		return j == nil && k == nil
	}
	return j.cancelled == k.cancelled
}

// copied returns a database that shares no memory with db.
func copied(db api.Database) api.Database {
	hyps := func(l []api.Hyp) []api.Hyp {
		l = slices.Clone(l)
		for i := range l {
			l[i].Text = slices.Clone(l[i].Text)
		}
		return l
	}
	own := api.Database{Constants: slices.Clone(db.Constants), Variables: slices.Clone(db.Variables)}
	for _, f := range db.Frames {
		f.Hyps, f.Dummies = hyps(f.Hyps), hyps(f.Dummies)
		f.Apart, f.Wide = slices.Clone(f.Apart), slices.Clone(f.Wide)
		f.Text, f.Proof = slices.Clone(f.Text), slices.Clone(f.Proof)
		own.Frames = append(own.Frames, f)
	}
	return own
}
