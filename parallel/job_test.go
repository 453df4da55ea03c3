package parallel

import (
	"runtime"
	"slices"
	"strings"
	"sync"
	"testing"
	"time"

	"apodixis/api"
)

// start begins a job that has to be right.
func start(t *testing.T, db api.Database, o Options) *Job {
	t.Helper()
	j, e := Start(db, o)
	if e != api.OK || j == nil {
		t.Fatalf("Start: %v, %d", j, e)
	}
	return j
}

// P11.5: the results of a job are those of Run, and its reports those of what Next has returned.
func TestJob(t *testing.T) {
	db := work()
	for _, o := range []Options{{1, -1, 0}, {2, -1, 0}, {3, -1, 0}, {MaxWorkers, -1, 0}, {2, 8, 0}, {2, 0, 0}, {3, -1, 1}, {3, -1, 2}, {1, -1, 4}, {4, -1, 5}, {2, 12, 3}} {
		want, _ := Run(db, o)
		j := start(t, db, o)
		for n, x := range want.Results {
			if r := j.Report(); !sameReport(r, report(want.Results[:n])) || r.Next != n {
				t.Errorf("%v: Report behind %d: %v", o, n, r)
			}
			if r, ok := j.Next(); !ok || r != x {
				t.Errorf("%v: Next number %d: %v, %t, want %v", o, n, r, ok, x)
			}
		}
		for range 3 {
			if r, ok := j.Next(); ok || r != (Result{}) {
				t.Errorf("%v: Next behind the end: %v, %t", o, r, ok)
			}
			if r := j.Report(); !sameReport(r, want) {
				t.Errorf("%v: Report at the end: %v, want %v", o, r, want)
			}
		}
	}
	j := start(t, api.Database{}, Options{Workers: 1, Budget: -1})
	if r, ok := j.Next(); ok || r != (Result{}) || !isZero(j.Report()) {
		t.Errorf("a job without theorems: %v, %t", r, ok)
	}
}

// P11.5: behind Cancel there are no results, wherever it comes; the report stays.
func TestCancel(t *testing.T) {
	db := work()
	for n := range 8 {
		for _, workers := range []int{1, 2, 4, MaxWorkers} {
			o := Options{workers, -1, 0}
			all, _ := Run(db, o)
			j := start(t, db, o)
			for range n {
				j.Next()
			}
			j.Cancel()
			want := report(all.Results[:min(n, len(all.Results))])
			for range 3 {
				if r, ok := j.Next(); ok || r != (Result{}) {
					t.Errorf("Next behind Cancel behind %d: %v, %t", n, r, ok)
				}
				if r := j.Report(); !sameReport(r, want) {
					t.Errorf("Report behind Cancel behind %d: %v, want %v", n, r, want)
				}
				j.Cancel()
			}
		}
	}
}

// P11.1: a copy of a job is the same one, and nothing else is.
func TestSame(t *testing.T) {
	db := work()
	o := Options{2, -1, 0}
	j, k := start(t, db, o), start(t, db, o)
	c := *j
	d := c
	var none *Job
	for _, x := range []struct {
		a, b *Job
		want bool
	}{
		{j, j, true}, {j, &c, true}, {&c, j, true}, {&c, &d, true}, {k, k, true}, {j, k, false}, {k, j, false}, {&d, k, false}, {k, &c, false},
		{none, none, true}, {none, nil, true}, {none, j, false}, {j, none, false}, {&c, nil, false},
	} {
		if is := x.a.Same(x.b); is != x.want {
			t.Errorf("Same: %t, want %t", is, x.want)
		}
	}
	all, _ := Run(db, o)
	j.Next()
	if r, ok := c.Next(); !ok || r != all.Results[1] {
		t.Errorf("Next of a copy: %v, %t", r, ok)
	}
	if r := j.Report(); !sameReport(r, report(all.Results[:2])) {
		t.Errorf("Report behind Next of a copy: %v", r)
	}
	d.Cancel()
	if r, ok := j.Next(); ok || r != (Result{}) {
		t.Errorf("Next behind Cancel of a copy: %v, %t", r, ok)
	}
	if !j.Same(&c) || j.Same(k) {
		t.Error("Same behind Cancel")
	}
	if r, ok := k.Next(); !ok || r != all.Results[0] {
		t.Errorf("Next of another job: %v, %t", r, ok)
	}
}

// P11.1: methods of nil, and of a job that nobody started.
func TestNil(t *testing.T) {
	var none *Job
	for _, j := range []*Job{none, {}} {
		j.Cancel()
		if r, ok := j.Next(); ok || r != (Result{}) {
			t.Errorf("Next: %v, %t", r, ok)
		}
		if r := j.Report(); !isZero(r) {
			t.Errorf("Report: %v", r)
		}
	}
}

// P11.5: a job keeps nothing of its database, and gives nothing away that it needs.
func TestOwn(t *testing.T) {
	for _, workers := range []int{1, 2, MaxWorkers} {
		db := nested()
		want, _ := Run(db, Options{workers, -1, 0})
		j := start(t, db, Options{workers, -1, 0})
		spoil(db)
		for n, x := range want.Results {
			if r, ok := j.Next(); !ok || r != x {
				t.Errorf("Next number %d: %v, %t, want %v", n, r, ok, x)
			}
			r := j.Report()
			clear(r.Results)
		}
		if r := j.Report(); !sameReport(r, want) {
			t.Errorf("Report: %v, want %v", r, want)
		}
	}
}

// spoil changes all that a database has.
func spoil(db api.Database) {
	for i := range db.Frames {
		f := &db.Frames[i]
		for _, l := range [][]api.Hyp{f.Hyps, f.Dummies} {
			for k := range l {
				clear(l[k].Text)
				l[k] = api.Hyp{}
			}
		}
		clear(f.Text)
		clear(f.Proof)
		clear(f.Apart)
		clear(f.Wide)
		*f = api.Frame{}
	}
	clear(db.Constants)
	clear(db.Variables)
}

// P11.5: no goroutine is left behind a call, also if a job is left as it is.
func TestNoneLeft(t *testing.T) {
	before := runtime.NumGoroutine()
	db := work()
	var jobs []*Job
	for workers := 1; workers <= MaxWorkers; workers++ {
		Run(db, Options{workers, -1, 0})
		Run(db, Options{workers, -1, 1})
		j := start(t, db, Options{workers, -1, 2})
		j.Next()
		jobs = append(jobs, j)
	}
	n := runtime.NumGoroutine()
	for range 1000 { // one that has said that it is done may still be counted
		if n = runtime.NumGoroutine(); n <= before {
			break
		}
		time.Sleep(time.Millisecond)
	}
	if n > before {
		t.Errorf("%d goroutines, of which %d were there before", n, before)
	}
	for _, j := range jobs {
		j.Cancel()
	}
}

// P11.5: what is cancelled does not verify all theorems, though it may verify some.
func TestStops(t *testing.T) {
	db := database("", strings.Repeat("a ", 100))
	frames := slices.Repeat([]int{1}, 500)
	closed := make(chan struct{})
	close(closed)
	r := newRun(db, frames, Options{4, -1, 0})
	r.extend(len(frames), closed)
	if n := len(r.results); n > len(frames)/2 {
		t.Errorf("%d theorems were verified", n)
	}
}

// P11.5: a job that is cancelled while another goroutine waits for its results ends; what was returned are the first results of the run.
func TestCancelMeanwhile(t *testing.T) {
	db := database("", strings.Repeat("a ", 2000), strings.Repeat("a ", 1999))
	for i := range 20 {
		f := db.Frames[1+i%2]
		f.Label = "more" + "abcdefghijklmnopqrstuvwxyz"[i:i+1]
		db.Frames = append(db.Frames, f)
	}
	for workers := 1; workers < 9; workers++ {
		all, _ := Run(db, Options{workers, -1, 0})
		j := start(t, db, Options{workers, -1, 0})
		first, _ := j.Next()
		var done sync.WaitGroup
		results := []Result{first}
		done.Add(1)
		go func() {
			defer done.Done()
			for {
				r, ok := j.Next()
				if !ok {
					return
				}
				results = append(results, r)
			}
		}()
		for range workers {
			runtime.Gosched()
		}
		for range 3 {
			done.Add(1)
			go func() {
				defer done.Done()
				j.Cancel()
			}()
		}
		done.Wait()
		if n := len(results); !slices.Equal(results, all.Results[:n]) || !sameReport(j.Report(), report(results)) {
			t.Errorf("%d results of %d: %v", n, len(all.Results), results)
		}
	}
}
