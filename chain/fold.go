package chain

import (
	"amber/api"
	"amber/image"
)

// Fold tells what images say together; idents are theirs.
func Fold(ims []api.Image, idents []uint32) (api.Folded, api.Errno) {
	if len(ims) != len(idents) {
		return api.Folded{}, api.ErrArg
	}
	return foldAll(len(ims), func(i int) (api.Image, uint32, error) {
		return ims[i], idents[i], image.Check(ims[i])
	})
}

// Load decodes and folds.
func Load(raws [][]byte) (api.Folded, api.Errno) {
	return foldAll(len(raws), func(i int) (api.Image, uint32, error) {
		im, err := image.Decode(raws[i])
		return im, image.Ident(raws[i]), err
	})
}

// foldAll asks for one image at a time, with its ident: what is wrong with one is told ahead of all that is wrong behind it.
func foldAll(count int, nth func(i int) (api.Image, uint32, error)) (api.Folded, api.Errno) {
	switch {
	case count == 0:
		return api.Folded{}, api.ErrNoImage
	case count > 1+api.MaxChain:
		return api.Folded{}, api.ErrChain
	}
	var fold api.Folded
	var last uint32
	for i := range count {
		im, ident, err := nth(i)
		switch {
		case err != nil:
			return api.Folded{}, api.ErrImage
		case im.Incr != (i > 0) || im.Incr && !follows(im, fold, last):
			return api.Folded{}, api.ErrChain
		}
		fold, last = foldedOn(fold, im), ident
	}
	return fold, api.OK
}

// follows: of an incremental image that image.Check took, so it has a key for each Ref.
func follows(im api.Image, fold api.Folded, ident uint32) bool {
	if im.Gen != fold.Gen+1 || im.PrevIdent != ident {
		return false
	}
	for class, ref := range im.Refs {
		if ref != inImage && !(standsIn(fold.Keys, ref) && fold.Keys[ref] == im.Keys[class]) {
			return false
		}
	}
	return true
}

func standsIn[T any](list []T, at int) bool { return 0 <= at && at < len(list) }

// foldedOn: the fold with the image behind it, in memory of its own. A full image asks nothing of what was before.
func foldedOn(fold api.Folded, im api.Image) api.Folded {
	var pages []api.Page
	own := im.Forest.Pages
	for _, ref := range im.Refs {
		if ref == inImage {
			pages = append(pages, own[0])
			own = own[1:]
		} else {
			pages = append(pages, fold.Forest.Pages[ref])
		}
	}
	f := copiedForest(im.Forest)
	f.Pages = pages
	return api.Folded{Forest: f, Keys: copied(im.Keys), Gen: im.Gen}
}
