package script

import (
	"jetty/api"
)

// A form is how an operation is written: its words, each as a letter. S is the store, N the Num, A the At, L the Len; K is the Key, V the Val, both as bytes.
type form struct {
	name  string
	kind  int
	words string
}

func forms() []form {
	return []form{
		{"begin", api.OpBegin, ""},
		{"commit", api.OpCommit, ""},
		{"abort", api.OpAbort, ""},
		{"save", api.OpSave, ""},
		{"back", api.OpBack, "N"},
		{"make", api.OpMake, "N"},
		{"drop", api.OpDrop, "S"},
		{"insert", api.OpInsert, "SV"},
		{"read", api.OpRead, "SN"},
		{"update", api.OpUpdate, "SNV"},
		{"delete", api.OpDelete, "SN"},
		{"list", api.OpList, "S"},
		{"put", api.OpPut, "SKV"},
		{"get", api.OpGet, "SK"},
		{"set", api.OpSet, "SKV"},
		{"cut", api.OpCut, "SK"},
		{"range", api.OpRange, "SKN"},
		{"new", api.OpNew, "SN"},
		{"len", api.OpLen, "SN"},
		{"piece", api.OpPiece, "SNAL"},
		{"write", api.OpWrite, "SNAV"},
		{"truncate", api.OpTruncate, "SNL"},
		{"destroy", api.OpDestroy, "SN"},
	}
}

// operation: what a name and the words behind it say.
func operation(name string, words []string) api.Op {
	for _, f := range forms() {
		if f.name != name {
			continue
		}
		count(words, len(f.words))
		op := api.Op{Kind: f.kind}
		for i, w := range words {
			read(&op, f.words[i], w)
		}
		return op
	}
	refuse(api.ErrLine)
	return api.Op{}
}

// read: a word of an operation.
func read(op *api.Op, letter byte, w string) {
	switch letter {
	case 'S':
		op.Store = number(w)
	case 'N':
		op.Num = number(w)
	case 'A':
		op.At = number(w)
	case 'L':
		op.Len = number(w)
	case 'K':
		op.Key = data(w)
	case 'V':
		op.Val = data(w)
	}
}
