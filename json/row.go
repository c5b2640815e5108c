package json

import (
	"slices"
	"strings"
	"unicode/utf8"

	"onionskin/api"
	"onionskin/jtext"
)

// Print is the JSON of a row without blanks, and whether the row is right.
func Print(l []api.Value) ([]byte, bool) {
	if !Right(l) {
		return nil, false
	}
	return addJSON(nil, l), true
}

// Right is whether l is one row, and that is right.
func Right(l []api.Value) bool {
	return len(l) <= api.MaxValues && End(l, 0) == len(l) && l[0].Key == "" && isRight(l, 0)
}

// End is the place behind the row that begins at that place, or -1.
func End(l []api.Value, at int) int {
	if at < 0 || at >= len(l) {
		return -1
	}
	// No calls of itself here, as a row that is not right can be as deep as it is long.
	for need := 1; need > 0; at++ {
		if l[at].Count < 0 {
			return -1
		}
		need--
		if !hasRows(l[at]) {
			continue
		}
		// Asked ahead of the sum, which Counts could make too great for a number.
		if left := len(l) - at - 1; l[at].Count > left-need {
			return -1
		}
		need += l[at].Count
	}
	return at
}

// Sort is a right row, with what each object has in order of the Keys.
func Sort(l []api.Value) []api.Value {
	if !Right(l) {
		return nil
	}
	return addSorted(nil, l)
}

// addJSON lays the JSON of a right row behind b.
func addJSON(b []byte, l []api.Value) []byte {
	switch v := l[0]; v.Kind {
	case api.JsonNumber:
		return append(b, v.Text...)
	case api.JsonString:
		return append(b, jtext.Quote(v.Text)...)
	case api.JsonList:
		return addGroup(b, listFirst, listLast, rows(l), addJSON)
	case api.JsonObject:
		return addGroup(b, objectFirst, objectLast, rows(l), addMember)
	default:
		return append(b, words[v.Kind]...)
	}
}

// addGroup lays rows behind b, by the function one, with commas between, from the first sign to the last one.
func addGroup(b []byte, first, last string, had [][]api.Value, one func([]byte, []api.Value) []byte) []byte {
	b = append(b, first...)
	for k, row := range had {
		if k > 0 {
			b = append(b, comma...)
		}
		b = one(b, row)
	}
	return append(b, last...)
}

// addMember lays the member that a right row is in an object behind b.
func addMember(b []byte, l []api.Value) []byte {
	b = append(b, jtext.Quote(l[0].Key)...)
	b = append(b, colon...)
	return addJSON(b, l)
}

// addSorted lays a right row behind out, with what each object has in order of the Keys.
func addSorted(out, l []api.Value) []api.Value {
	had := rows(l)
	if l[0].Kind == api.JsonObject {
		slices.SortFunc(had, func(a, b []api.Value) int { return strings.Compare(a[0].Key, b[0].Key) })
	}
	out = append(out, l[0])
	for _, row := range had {
		out = addSorted(out, row)
	}
	return out
}

// isRight is whether a row, which is in so many others, is right, but for its own Key.
func isRight(l []api.Value, deep int) bool {
	if deep == api.MaxDeep || !isValue(l[0]) {
		return false
	}
	had := rows(l)
	if !areKeys(had, l[0].Kind) {
		return false
	}
	for _, row := range had {
		if !isRight(row, deep+1) {
			return false
		}
	}
	return true
}

// isValue is whether a value may be, but for its Key and how many rows stand behind it.
func isValue(v api.Value) bool {
	switch v.Kind {
	case api.JsonNull, api.JsonTrue, api.JsonFalse:
		return v.Text == "" && v.Count == 0
	case api.JsonNumber:
		return v.Text != "" && jtext.Number(v.Text) == len(v.Text) && v.Count == 0
	case api.JsonString:
		return utf8.ValidString(v.Text) && v.Count == 0
	case api.JsonList, api.JsonObject:
		return v.Text == ""
	}
	return false
}

// areKeys is whether the rows that a value of that kind has may have their Keys.
func areKeys(had [][]api.Value, kind int) bool {
	if kind != api.JsonObject {
		return !slices.ContainsFunc(had, func(row []api.Value) bool { return row[0].Key != "" })
	}
	keys := make(map[string]struct{}, len(had))
	for _, row := range had {
		if !utf8.ValidString(row[0].Key) {
			return false
		}
		keys[row[0].Key] = struct{}{}
	}
	return len(keys) == len(had)
}

// rows is the rows of what the value has with which a row begins.
func rows(l []api.Value) [][]api.Value {
	if !hasRows(l[0]) {
		return nil
	}
	had := make([][]api.Value, l[0].Count)
	at := 1
	for k := range had {
		end := End(l, at)
		had[k] = l[at:end]
		at = end
	}
	return had
}

// hasRows is whether a value is one that has the rows behind it.
func hasRows(v api.Value) bool { return v.Kind == api.JsonList || v.Kind == api.JsonObject }
