package pieces

import (
	"slices"
	"strconv"
	"testing"
	"unsafe"

	"salvage/api"
)

func file(name, data string) api.File { return api.File{Name: name, Data: data} }

func added(list ...api.File) *Files {
	var x Files
	for _, f := range list {
		x.Add(f.Name, f.Data)
	}
	return &x
}

func TestFilesStandInTheOrderInWhichTheirNamesCameFirst(t *testing.T) {
	for _, c := range []struct{ pieces, want []api.File }{
		{nil, nil},
		{[]api.File{file("b", "1"), file("a", "2")}, []api.File{file("b", "1"), file("a", "2")}},
		{[]api.File{file("b", "1"), file("a", "2"), file("b", "3")}, []api.File{file("b", "13"), file("a", "2")}},
		{[]api.File{file("v01", ""), file("v00", "x"), file("v01", "y"), file("v00", "z")}, []api.File{file("v01", "y"), file("v00", "xz")}},
		{[]api.File{file("", "x"), file("a", ""), file("", ""), file("", "y")}, []api.File{file("", "xy"), file("a", "")}},
		{[]api.File{file("", "")}, []api.File{file("", "")}},
		{[]api.File{file("a", "x"), file("a\x00", "y"), file("A", "z"), file("\xff", "\xfe"), file("a", "w")}, []api.File{file("a", "xw"), file("a\x00", "y"), file("A", "z"), file("\xff", "\xfe")}},
	} {
		if got := added(c.pieces...).List(); !slices.Equal(got, c.want) {
			t.Errorf("of the pieces %q come the files %q, want %q", c.pieces, got, c.want)
		}
	}
}

func TestManyFiles(t *testing.T) {
	const count = 100000
	var x Files
	for i := range 2 * count {
		x.Add(strconv.Itoa(i%count), strconv.Itoa(i/count))
	}
	list := x.List()
	if len(list) != count {
		t.Fatalf("there are %d files, want %d", len(list), count)
	}
	for i, f := range list {
		if f != file(strconv.Itoa(i), "01") {
			t.Fatalf("the file number %d is %q", i, f)
		}
	}
}

// The room behind a file's data may not be that of another file.
func TestFilesGrowSideBySide(t *testing.T) {
	var x Files
	want := []api.File{file("a", ""), file("b", ""), file("c", "")}
	for i := range 300 {
		piece := string(make([]byte, i%7)) + strconv.Itoa(i)
		x.Add(want[i%3].Name, piece)
		want[i%3].Data += piece
	}
	if got := x.List(); !slices.Equal(got, want) {
		t.Errorf("the files are %q, want %q", got, want)
	}
}

func TestListIsNewMemory(t *testing.T) {
	x := added(file("a", "x"), file("b", "y"))
	first := x.List()
	kept := slices.Clone(first)
	x.Add("a", "more")
	if !slices.Equal(first, kept) {
		t.Errorf("a piece changed a list that had been told: %q", first)
	}
	first[0], first[1] = file("c", "z"), file("d", "z")
	if got := x.List(); !slices.Equal(got, []api.File{file("a", "xmore"), file("b", "y")}) {
		t.Errorf("writing into a list changed a later one: %q", got)
	}
}

func TestNothingHandedInIsKept(t *testing.T) {
	var x Files
	name, piece := []byte("v00"), []byte("data")
	x.Add(unsafe.String(&name[0], len(name)), unsafe.String(&piece[0], len(piece)))
	copy(name, "xyz")
	copy(piece, "over")
	x.Add("v00", "more")
	x.Add("xyz", "other")
	if got := x.List(); !slices.Equal(got, []api.File{file("v00", "datamore"), file("xyz", "other")}) {
		t.Errorf("the files are %q", got)
	}
}
