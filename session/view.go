package session

import (
	"sync"

	"erasure/api"
	"erasure/save"
)

// redacted is a page that was processed.
type redacted struct {
	index int
	page  api.Page
}

// failure is a page that could not be processed.
type failure struct {
	index int
	e     api.Errno
}

// View returns the redacted pages of l.
func View(l []api.Page, regions []api.Region, covers bool) ([]api.Page, api.Errno) {
	if e := save.Check(l); e != api.OK {
		return nil, e
	}
	if len(regions) > api.MaxRegions {
		return nil, api.ErrLong
	}
	for _, r := range regions {
		if !isRegion(r, l) {
			return nil, api.ErrArg
		}
	}
	pages, e := redactAll(l, regions, covers)
	if e != api.OK {
		return nil, e
	}
	if save.Check(pages) != api.OK {
		return nil, api.ErrArg
	}
	return pages, api.OK
}

// redactAll processes all pages side by side. What is received is kept by the places of the pages, since it comes in any order.
func redactAll(l []api.Page, regions []api.Region, covers bool) ([]api.Page, api.Errno) {
	done, failed := make(chan redacted), make(chan failure)
	var workers sync.WaitGroup
	for i, p := range l {
		workers.Add(1)
		go func() {
			defer workers.Done()
			page, e := redact(p, boxesOf(regions, i), covers)
			if e != api.OK {
				failed <- failure{i, e}
				return
			}
			done <- redacted{i, page}
		}()
	}
	pages, errors := make([]api.Page, len(l)), make([]api.Errno, len(l))
	for range l {
		select {
		case x := <-done:
			pages[x.index] = x.page
		case x := <-failed:
			errors[x.index] = x.e
		}
	}
	workers.Wait()
	for _, e := range errors {
		if e != api.OK {
			return nil, e
		}
	}
	return pages, api.OK
}

// boxesOf returns the boxes of the regions of a page.
func boxesOf(regions []api.Region, page int) []api.Box {
	var l []api.Box
visiting:
	for _, r := range regions {
		if r.Page != page {
			continue visiting
		}
		l = append(l, r.Box)
	}
	return l
}
