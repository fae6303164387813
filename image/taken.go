package image

import "footman/api"

// Who takes bytes: a key's are those of the keys' region too.
type owner int

const (
	ofRegion owner = iota + 1
	ofKey
)

// A spot is a byte that an owner has.
type spot struct {
	owner owner
	at    uint32
}

// Taken are the bytes that owners have already.
type taken map[spot]struct{}

// take takes the first of each step bytes of r; false: one of these is taken already.
func (t taken) take(o owner, r api.Region, step uint32) bool {
	for at := r.Lo; at < r.Hi; at += step {
		s := spot{o, at}
		if _, ok := t[s]; ok {
			return false
		}
		t[s] = struct{}{}
	}
	return true
}

// takeRegions takes the first byte of each word: such regions begin and end at words, and share whole ones.
func (t taken) takeRegions(i api.Image) bool {
	for r := range regions(i) {
		if !t.take(ofRegion, r, wordBytes) {
			return false
		}
	}
	return true
}

// takeKeys takes each byte: a key may begin anywhere.
func (t taken) takeKeys(i api.Image) bool {
	for _, p := range i.Parts {
		if len(p.Keys) > mostKeys {
			return false
		}
		for _, k := range p.Keys {
			if !isKey(k, i.Keys) || !t.take(ofKey, k, 1) {
				return false
			}
		}
	}
	return true
}

// isKey tells whether r lies in the region of all keys, and is as long as a key is.
func isKey(r, all api.Region) bool {
	return all.Lo <= r.Lo && r.Lo <= r.Hi && r.Hi <= all.Hi && r.Hi-r.Lo == keyBytes
}

// Known are names that stand already.
type known map[string]struct{}

// take is false of what is no name, and of a name that is taken already.
func (k known) take(x string) bool {
	if _, ok := k[x]; ok || x == "" {
		return false
	}
	k[x] = struct{}{}
	return true
}
