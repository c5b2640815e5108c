package config

import (
	"unicode/utf8"

	"onionskin/api"
	"onionskin/jobj"
	"onionskin/json"
)

// An entry's members that are read, neither of which it must have.
const (
	byKey    = "created_by"
	emptyKey = "empty_layer"
)

// Layers is how many entries of h tell of a layer.
func Layers(h []api.Hist) int {
	count := 0
	for _, entry := range h {
		if !entry.Empty {
			count++
		}
	}
	return count
}

// readHistory is the entries of the list l, and whether it is a list of them, or none.
func readHistory(l []api.Value) ([]api.Hist, bool) {
	if len(l) == 0 {
		return nil, true
	}
	if l[0].Kind != api.JsonList {
		return nil, false
	}
	var history []api.Hist
	for at := 1; at < len(l); {
		end := json.End(l, at)
		entry, ok := readEntry(l[at:end])
		if !ok {
			return nil, false
		}
		history = append(history, entry)
		at = end
	}
	return history, true
}

// readEntry is the entry that l is, and whether it is one.
func readEntry(l []api.Value) (api.Hist, bool) {
	by, isBy := readBy(l)
	empty, isEmpty := readEmpty(l)
	if !isBy || !isEmpty || l[0].Kind != api.JsonObject {
		return api.Hist{}, false
	}
	return api.Hist{By: by, Empty: empty, Rest: without(l, byKey, emptyKey)}, true
}

// readBy is what the object l was made by, and whether it may have what it has there.
func readBy(l []api.Value) (string, bool) {
	at := jobj.Get(l, 0, byKey)
	if at == noPlace {
		return "", true
	}
	if l[at].Kind != api.JsonString {
		return "", false
	}
	return l[at].Text, true
}

// readEmpty is whether the object l has no layer, and whether it may have what it has there.
func readEmpty(l []api.Value) (empty, ok bool) {
	at := jobj.Get(l, 0, emptyKey)
	if at == noPlace {
		return false, true
	}
	empty = l[at].Kind == api.JsonTrue
	return empty, empty || l[at].Kind == api.JsonFalse
}

// historyRow is the row of the history h; none, if an entry may not be.
func historyRow(h []api.Hist) []api.Value {
	// Of an entry that may not be there is no row, and so none of what has it.
	var entries [][]api.Value
	for _, entry := range h {
		entries = append(entries, entryRow(entry))
	}
	return jobj.List(entries...)
}

// entryRow is the row of an entry; none, if it may not be.
func entryRow(h api.Hist) []api.Value {
	if !isRest(h.Rest, byKey, emptyKey) || !utf8.ValidString(h.By) {
		return nil
	}
	l := h.Rest
	if h.By != "" {
		l = jobj.Set(l, byKey, jobj.Text(h.By))
	}
	if h.Empty {
		l = jobj.Set(l, emptyKey, []api.Value{{Kind: api.JsonTrue}})
	}
	return l
}
