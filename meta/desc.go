package meta

import (
	"unicode/utf8"

	"onionskin/api"
	"onionskin/digest"
	"onionskin/jobj"
	"onionskin/json"
	"onionskin/jtext"
)

// A descriptor's members, and how many they are.
const (
	mediaKey    = "mediaType"
	digestKey   = "digest"
	sizeKey     = "size"
	memberCount = 3
)

// readDescs is the descriptors of the list l, and whether it is a list of them.
func readDescs(l []api.Value) ([]api.Desc, bool) {
	if len(l) == 0 || l[0].Kind != api.JsonList {
		return nil, false
	}
	var out []api.Desc
	for at := 1; at < len(l); {
		end := json.End(l, at)
		d, ok := readDesc(l[at:end])
		if !ok {
			return nil, false
		}
		out = append(out, d)
		at = end
	}
	return out, true
}

// readDesc is the descriptor that l is, and whether it is one.
func readDesc(l []api.Value) (api.Desc, bool) {
	media, isMedia := member(l, mediaKey, api.JsonString)
	name, isName := member(l, digestKey, api.JsonString)
	number, isNumber := member(l, sizeKey, api.JsonNumber)
	if !isMedia || !isName || !isNumber || l[0].Count != memberCount {
		return api.Desc{}, false
	}
	d, isDigest := digest.Parse(name)
	size, isInt := jtext.Int(number)
	if !isDigest || !isInt || !isSize(size) {
		return api.Desc{}, false
	}
	return api.Desc{Media: media, Digest: d, Size: size}, true
}

// descRow is the row of d; none, if d is none that may be.
func descRow(d api.Desc) []api.Value {
	if !utf8.ValidString(d.Media) || !isSize(d.Size) {
		return nil
	}
	keys := []string{mediaKey, digestKey, sizeKey}
	return jobj.Object(keys, jobj.Text(d.Media), jobj.Text(digest.Print(d.Digest)), jobj.Int(d.Size))
}

// isSize is whether a blob's size can be n.
func isSize(n int) bool { return n >= 0 && n <= api.MaxNumber }
