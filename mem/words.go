package mem

import "amber/api"

// Load tells a word.
func (m *Mem) Load(f, i int) (uint32, api.Errno) {
	if code := m.noWord(f, i); code != api.OK {
		return 0, code
	}
	return m.frames[f].words[i], api.OK
}

// Store changes a word.
func (m *Mem) Store(f, i int, v uint32) api.Errno {
	if code := m.noWord(f, i); code != api.OK {
		return code
	}
	m.frames[f].words[i] = v
	m.frames[f].told.Dirty = true
	return api.OK
}

// Page tells all words.
func (m *Mem) Page(f int) (api.Page, api.Errno) {
	if !m.inUse(f) {
		return api.Page{}, api.ErrFrame
	}
	return m.frames[f].words, api.OK
}

// SetPage changes all words.
func (m *Mem) SetPage(f int, p api.Page) api.Errno {
	if !m.inUse(f) {
		return api.ErrFrame
	}
	m.frames[f].words = p
	m.frames[f].told.Dirty = true
	return api.OK
}

// Copy changes all words of one frame to those of another.
func (m *Mem) Copy(from, to int) api.Errno {
	if !m.inUse(from) || !m.inUse(to) {
		return api.ErrFrame
	}
	m.frames[to].words = m.frames[from].words
	m.frames[to].told.Dirty = true
	return api.OK
}

// Same tells whether two frames hold the same words.
func (m *Mem) Same(f, g int) (bool, api.Errno) {
	if !m.inUse(f) || !m.inUse(g) {
		return false, api.ErrFrame
	}
	return m.frames[f].words == m.frames[g].words, api.OK
}

// noWord tells why there is no word i of frame f, or OK.
func (m *Mem) noWord(f, i int) api.Errno {
	if !m.inUse(f) {
		return api.ErrFrame
	}
	if i < 0 || i >= api.PageWords {
		return api.ErrWord
	}
	return api.OK
}
