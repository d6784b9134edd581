// Package trees: trees of files and their streams.
package trees

import (
	"strings"

	"salvage/api"
	"salvage/raw"
)

// Is tells whether these files are a tree.
func Is(files []api.File) bool {
	if len(files) > api.MaxFiles {
		return false
	}
	ahead := ""
	for _, f := range files {
		if !isName(f.Name) || !follows(f.Name, ahead) || len(f.Data) > api.MaxBytes {
			return false
		}
		ahead = f.Name
	}
	return true
}

func isName(name string) bool {
	if len(name) > api.MaxName {
		return false
	}
	// A `/` at either end, or beside another one, leaves an empty part.
	for part := range strings.SplitSeq(name, "/") {
		if !isWord(part) {
			return false
		}
	}
	return true
}

func isWord(s string) bool {
	for i := range len(s) {
		if s[i] < 'a' || s[i] > 'z' {
			return false
		}
	}
	return s != ""
}

// follows tells whether a name may stand behind the one ahead, which is empty ahead of the first.
// The one ahead is enough: as `/` is lower than all letters, nothing that rises stands between a name and those that go on with a `/` from it.
func follows(name, ahead string) bool {
	return name > ahead && !strings.HasPrefix(name, ahead+"/")
}

// Stream tells the stream of a tree.
func Stream(tree []api.File) string {
	var s strings.Builder
	s.WriteString(raw.Bytes(len(tree), 1))
	for _, f := range tree {
		s.WriteString(raw.Bytes(len(f.Name), 1))
		s.WriteString(f.Name)
		s.WriteString(raw.Bytes(len(f.Data), 2))
		s.WriteString(f.Data)
	}
	return s.String()
}

// Read tells the tree whose stream it is; if it is the stream of none, it gives up.
func Read(stream string) []api.File {
	r := raw.NewReader(stream)
	tree := make([]api.File, r.Number(1, 0, api.MaxFiles))
	ahead := ""
	for i := range tree {
		tree[i] = readFile(r, ahead)
		ahead = tree[i].Name
	}
	r.End()
	return tree
}

func readFile(r *raw.Reader, ahead string) api.File {
	name := readName(r, ahead)
	data := r.Text(r.Number(2, 0, api.MaxBytes))
	return api.File{Name: name, Data: data}
}

func readName(r *raw.Reader, ahead string) string {
	length := r.Number(1, 1, api.MaxName)
	place := r.Place()
	name := r.Text(length)
	if !isName(name) || !follows(name, ahead) {
		raw.GiveUp(place)
	}
	return name
}
