// Package pieces: files whose data come piece by piece.
package pieces

import (
	"strings"

	"salvage/api"
)

// Files are files in the order in which their names came first. The zero value has none.
type Files struct {
	files  []growing
	places map[string]int // of each name, where it stands in files
}

type growing struct {
	name string
	data []byte
}

// Add puts a piece on the end of the file of this name, which is there from then on.
func (x *Files) Add(name, piece string) {
	place, there := x.places[name]
	if !there {
		place = x.begin(name)
	}
	x.files[place].data = append(x.files[place].data, piece...)
}

// begin puts a file without data behind the others, and tells where it stands.
func (x *Files) begin(name string) int {
	if x.places == nil {
		x.places = map[string]int{}
	}
	// Copied, as what is handed in may not be kept.
	name = strings.Clone(name)
	place := len(x.files)
	x.files = append(x.files, growing{name: name})
	x.places[name] = place
	return place
}

// List tells all files.
func (x *Files) List() []api.File {
	list := make([]api.File, len(x.files))
	for i, f := range x.files {
		list[i] = api.File{Name: f.name, Data: string(f.data)}
	}
	return list
}
