package disk

import (
	"slices"

	"hornbook/api"
)

// rightFiles tells whether a disk with so much room may have files.
func rightFiles(files []api.File, room int) bool {
	if len(files) > api.MaxFiles {
		return false
	}
	for i, file := range files {
		if !rightNames(file.Name) || i > 0 && file.Name <= files[i-1].Name {
			return false
		}
	}
	return size(files) <= room
}

// rightNames tells whether all of these are file names.
func rightNames(names ...string) bool {
	for _, name := range names {
		if len(name) < 1 || len(name) > api.MaxName {
			return false
		}
		for i := range len(name) {
			if !rightByte(name[i]) {
				return false
			}
		}
	}
	return true
}

func rightByte(b byte) bool {
	return b >= 'a' && b <= 'z' || b >= '0' && b <= '9' || b == '.'
}

func rightLeft(left int) bool { return left >= forever && left <= mostLeft }

// size answers how many bytes files have.
func size(files []api.File) int {
	n := 0
	for _, file := range files {
		n += len(file.Synced) + len(file.Tail)
	}
	return n
}

// crashed answers a file of whose Tail so many bytes last.
func crashed(file api.File, last int) api.File {
	return api.File{Name: file.Name, Synced: file.Synced + file.Tail[:last]}
}

// with answers files with one more, in place of any that has its name.
func with(files []api.File, file api.File) []api.File {
	all := without(files, file.Name)
	at := 0
	for at < len(all) && all[at].Name < file.Name {
		at++
	}
	// The list is new memory, so that no caller's files are moved.
	return slices.Insert(all, at, file)
}

// without answers the files that have none of these names, in new memory.
func without(files []api.File, names ...string) []api.File {
	var others []api.File
	for _, file := range files {
		if !slices.Contains(names, file.Name) {
			others = append(others, file)
		}
	}
	return others
}
