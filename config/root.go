package config

import (
	"onionskin/api"
	"onionskin/digest"
	"onionskin/jobj"
)

// The members of rootfs, how many they are, and what the first of them is.
const (
	typeKey     = "type"
	idsKey      = "diff_ids"
	memberCount = 2
	typeText    = "layers"
)

// readRoot is the digests that the rootfs l has, and whether it is one.
func readRoot(l []api.Value) ([]api.Digest, bool) {
	if len(l) == 0 || l[0].Count != memberCount {
		return nil, false
	}
	at := jobj.Get(l, 0, typeKey)
	if at == noPlace || l[at].Kind != api.JsonString || l[at].Text != typeText {
		return nil, false
	}
	return readIds(jobj.Cut(l, jobj.Get(l, 0, idsKey)))
}

// readIds is the digests of the list l, and whether it is a list of them.
func readIds(l []api.Value) ([]api.Digest, bool) {
	if len(l) == 0 || l[0].Kind != api.JsonList {
		return nil, false
	}
	var ids []api.Digest
	for _, v := range l[1:] {
		id, ok := digest.Parse(v.Text)
		if !ok || v.Kind != api.JsonString {
			return nil, false
		}
		ids = append(ids, id)
	}
	return ids, true
}

// rootRow is the row of the rootfs of those digests.
func rootRow(ids []api.Digest) []api.Value {
	var texts [][]api.Value
	for _, id := range ids {
		texts = append(texts, jobj.Text(digest.Print(id)))
	}
	return jobj.Object([]string{typeKey, idsKey}, jobj.Text(typeText), jobj.List(texts...))
}
