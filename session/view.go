package session

import (
	"erasure/api"
	"erasure/save"
)

// worker processes a page, and sends what becomes of it on one of its channels.
type worker struct {
	done   chan api.Page
	failed chan api.Errno
}

// View returns the redacted pages of l.
func View(l []api.Page, regions []api.Region, covers bool) ([]api.Page, api.Errno) {
	if e := save.Check(l); e != api.OK {
		return nil, e
	}
	if len(regions) > api.MaxRegions {
		return nil, api.ErrLong
	}
	for _, r := range regions {
		if !isRegion(r, l) {
			return nil, api.ErrArg
		}
	}
	pages, e := redactAll(l, regions, covers)
	if e != api.OK {
		return nil, e
	}
	if save.Check(pages) != api.OK {
		return nil, api.ErrArg
	}
	return pages, api.OK
}

// redactAll processes all pages side by side, and returns them, or the error of the first one that has one.
func redactAll(l []api.Page, regions []api.Region, covers bool) ([]api.Page, api.Errno) {
	var workers []worker
	for i, p := range l {
		workers = append(workers, start(p, boxesOf(regions, i), covers))
	}
	var pages []api.Page
	first := api.OK
	// Also behind an error all workers are waited for.
	for _, w := range workers {
		select {
		case p := <-w.done:
			pages = append(pages, p)
		case e := <-w.failed:
			if first == api.OK {
				first = e
			}
		}
	}
	if first != api.OK {
		return nil, first
	}
	return pages, api.OK
}

// start begins to process a page.
func start(p api.Page, boxes []api.Box, covers bool) worker {
	w := worker{done: make(chan api.Page), failed: make(chan api.Errno)}
	go func() {
		out, e := redact(p, boxes, covers)
		if e != api.OK {
			w.failed <- e
			return
		}
		w.done <- out
	}()
	return w
}

// boxesOf returns the boxes of the regions of a page.
func boxesOf(regions []api.Region, page int) []api.Box {
	var l []api.Box
visiting:
	for _, r := range regions {
		if r.Page != page {
			continue visiting
		}
		l = append(l, r.Box)
	}
	return l
}
