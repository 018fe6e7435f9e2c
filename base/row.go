package base

import (
	"math"

	"farrier/arc"
	"farrier/crc"
	"farrier/rec"
)

// pack is an entry's row: its name and version, its lists, and the sum of all these, by which spoilt rows are told.
func pack(e Entry) []byte {
	var needs, files []rec.Part
	for _, n := range e.Needs {
		needs = append(needs, rec.Text(n.Name), rec.Num(n.Way), rec.Text(n.Ver))
	}
	for _, f := range e.Files {
		files = append(files, rec.Text(f.Path), truth(f.Config), rec.Num(int(f.Sum)))
	}
	b := rec.Pack(
		rec.Text(e.Name), rec.Text(e.Version),
		rec.List(needs...), texts(e.Conflicts), rec.List(files...), texts(e.Units),
	)
	return rec.Pack(b, rec.Num(int(crc.Of(b))))
}

// truth is whether something is so, as a part; texts is a list of texts.
func truth(is bool) rec.Part {
	if is {
		return rec.Num(1)
	}
	return rec.Num(0)
}

func texts(list []string) rec.Part {
	var parts []rec.Part
	for _, s := range list {
		parts = append(parts, rec.Text(s))
	}
	return rec.List(parts...)
}

// unpack is the entry that such a row is, or, where it is none, whichever.
func unpack(row []byte) Entry {
	r := rec.Read(row)
	e := Entry{Name: text(r), Version: text(r)}
	for l := r.List(); l.More(); {
		e.Needs = append(e.Needs, arc.Need{Name: text(l), Way: number(l), Ver: text(l)})
	}
	e.Conflicts = takeTexts(r.List())
	for l := r.List(); l.More(); {
		e.Files = append(e.Files, File{Path: text(l), Config: l.Truth(), Sum: uint32(number(l))})
	}
	e.Units = takeTexts(r.List())
	return e
}

// text, number are the next part, however great it is; takeTexts is all texts that are left.
func text(r *rec.Reader) string { return r.Text(math.MaxInt) }

func number(r *rec.Reader) int { return r.Num(math.MaxInt) }

func takeTexts(r *rec.Reader) []string {
	var list []string
	for r.More() {
		list = append(list, text(r))
	}
	return list
}
