package live

import (
	"sync"

	"surtitle/api"
	"surtitle/edit"
)

// job is a document, and the edits that are to be done in it.
type job struct {
	number int
	doc    api.Doc
	edits  []api.Edit
}

// do tells the document behind the edits, those that are refused left out; one without cues, if it is not right.
func (j job) do() api.Doc {
	log, err := edit.New(j.doc)
	if err != nil {
		return api.Doc{}
	}
	for _, e := range j.edits {
		log.Do(e)
	}
	return log.Doc()
}

// crop is what the goroutines of a farm bring in.
type crop struct {
	mutex sync.Mutex
	docs  []api.Doc
}

func (c *crop) bringIn(number int, d api.Doc) {
	c.mutex.Lock()
	defer c.mutex.Unlock()
	c.docs[number] = d
}

// Farm plays edits over documents, by so many goroutines.
func Farm(crew int, l []api.Doc, edits [][]api.Edit) ([]api.Doc, api.Errno) {
	if crew < 1 || crew > api.MaxCrew || len(l) != len(edits) {
		return nil, api.ErrArg
	}
	all := &crop{docs: make([]api.Doc, len(l))}
	jobs, done := make(chan job), make(chan int)
	var workers sync.WaitGroup
	workers.Add(crew)
	for range crew {
		go func() {
			defer workers.Done()
			for j := range jobs {
				all.bringIn(j.number, j.do())
				done <- j.number
			}
		}()
	}
	handOut(l, edits, jobs, done)
	close(jobs)
	workers.Wait()
	return all.docs, api.OK
}

// handOut gives each document to whoever takes it, and hears that it is done, until all are.
func handOut(l []api.Doc, edits [][]api.Edit, jobs chan<- job, done <-chan int) {
	for given, back := 0, 0; back < len(l); {
		var next job
		var to chan<- job // none, once all were given: then it is only heard
		if given < len(l) {
			next, to = job{given, l[given], edits[given]}, jobs
		}
		select {
		case to <- next:
			given++
		case <-done:
			back++
		}
	}
}
