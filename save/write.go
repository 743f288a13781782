package save

import (
	"slices"
	"strconv"

	"erasure/api"
	"erasure/cmap"
	"erasure/emit"
	"erasure/font"
	"erasure/obj"
	"erasure/ops"
	"erasure/xref"
	"erasure/zlib"
)

const (
	head = "%PDF-1.7\n"
	tail = "%%EOF\n"
)

// object is one of a file; of a stream with its bytes.
type object struct {
	value  api.Obj
	stream bool
	data   []byte
}

// writer collects objects, which are numbered from 1 on, and keeps its first error.
type writer struct {
	objects []object
	e       api.Errno
}

// refuse keeps that there is too much of something, if e tells that it was refused.
func (w *writer) refuse(e api.Errno) {
	if e != api.OK {
		w.e = api.ErrLong
	}
}

// add adds an object, and returns a reference to it.
func (w *writer) add(o object) api.Obj {
	w.objects = append(w.objects, o)
	return api.Obj{Kind: api.ObjRef, Ref: len(w.objects)}
}

// set puts a value in the place of an object that was added.
func (w *writer) set(ref api.Obj, value api.Obj) {
	w.objects[ref.Ref-1].value = value
}

// addStream adds a stream of data, which are packed.
func (w *writer) addStream(data []byte, entries ...entry) api.Obj {
	packed, e := zlib.Pack(data)
	w.refuse(e)
	all := append(slices.Clone(entries), entry{keyFilter, nameOf(nameFlate)}, entry{keyLength, numberOf(len(packed))})
	return w.add(object{value: dictOf(all...), stream: true, data: packed})
}

// document adds all objects of pages.
func (w *writer) document(l []api.Page) {
	root, pages := w.add(object{}), w.add(object{})
	w.set(root, dictOf(entry{keyPages, pages}, entry{keyType, nameOf(nameCatalog)}))
	var kids []api.Obj
	for _, p := range l {
		kids = append(kids, w.addPage(p, pages))
	}
	w.set(pages, dictOf(entry{keyCount, numberOf(len(kids))}, entry{keyKids, listOf(kids...)}, entry{keyType, nameOf(namePages)}))
}

func (w *writer) addPage(p api.Page, parent api.Obj) api.Obj {
	page := w.add(object{})
	contents := w.addContents(p)
	fonts := collect(p.Fonts, w.addFont)
	pictures := collect(p.Pictures, w.addPicture)
	w.set(page, dictOf(
		entry{keyContents, contents},
		entry{keyBox, listOf(decimal(p.Box.X0), decimal(p.Box.Y0), decimal(p.Box.X1), decimal(p.Box.Y1))},
		entry{keyParent, parent},
		entry{keyResources, dictOf(entry{keyFont, fonts}, entry{keyObject, pictures})},
		entry{keyType, nameOf(namePage)},
	))
	return page
}

// collect adds all parts of a page, and returns a dictionary of their names.
func collect[T any](l []T, add func(T) entry) api.Obj {
	var entries []entry
	for _, x := range l {
		entries = append(entries, add(x))
	}
	return dictOf(entries...)
}

func (w *writer) addContents(p api.Page) api.Obj {
	l, e := emit.Emit(p.Marks, p.Fonts)
	w.refuse(e)
	text, e := ops.Print(l)
	w.refuse(e)
	return w.addStream([]byte(text))
}

func (w *writer) addFont(x api.Named) entry {
	dict, means, e := font.Write(x.Font)
	w.refuse(e)
	entries := append(entriesOf(dict), entry{keyBase, nameOf(nameBase)})
	place := w.add(object{})
	if len(means) > 0 {
		text, e := cmap.Print(means, x.Font.Wide)
		w.refuse(e)
		entries = append(entries, entry{keyUnicode, w.addStream([]byte(text))})
	}
	w.set(place, dictOf(entries...))
	return entry{x.Name, place}
}

func (w *writer) addPicture(x api.Picture) entry {
	im := x.Image
	return entry{x.Name, w.addStream(im.Data,
		entry{keyBits, numberOf(im.Bits)},
		entry{keySpace, nameOf(colorSpace(im.Comps))},
		entry{keyHeight, numberOf(im.Height)},
		entry{keySubtype, nameOf(nameImage)},
		entry{keyType, nameOf(nameObject)},
		entry{keyWidth, numberOf(im.Width)},
	)}
}

// file returns the file of all objects, of which the first one is the root.
func (w *writer) file() ([]byte, api.Errno) {
	b := []byte(head)
	entries := []api.Entry{{}}
	for i, o := range w.objects {
		entries = append(entries, api.Entry{Id: i + 1, At: len(b), Used: true})
		text, e := obj.Print(o.value)
		w.refuse(e)
		b = append(b, strconv.Itoa(i+1)+" 0 obj\n"+text+"\n"...)
		if o.stream {
			b = append(b, "stream\n"...)
			b = append(b, o.data...)
			b = append(b, "\nendstream\n"...)
		}
		b = append(b, "endobj\n"...)
	}
	trailer := dictOf(entry{keyRoot, api.Obj{Kind: api.ObjRef, Ref: 1}}, entry{keySize, numberOf(len(entries))})
	table, e := xref.Print(entries, trailer)
	w.refuse(e)
	if w.e != api.OK {
		return nil, w.e
	}
	at := strconv.Itoa(len(b))
	return append(b, table+"startxref\n"+at+"\n"+tail...), api.OK
}
