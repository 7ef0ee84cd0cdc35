// Package whole holds tests of what DOC.md says of all layers together.
package whole

import (
	"testing"

	"selvage/api"
)

// Limits and numbers.
func TestLimits(t *testing.T) {
	for _, l := range []struct {
		name      string
		got, want int
	}{
		{"MinInt", api.MinInt, -4611686018427387904}, {"MaxInt", api.MaxInt, 4611686018427387903},
		{"MinHeap", api.MinHeap, 64}, {"MaxHeap", api.MaxHeap, 65536}, {"MaxFields", api.MaxFields, 60},
		{"MaxTag", api.MaxTag, 199}, {"Closure", api.Closure, 200}, {"Text", api.Text, 201},
		{"MaxText", api.MaxText, 60}, {"MaxSource", api.MaxSource, 2000}, {"MaxName", api.MaxName, 16}, {"MaxDeep", api.MaxDeep, 40},
		{"MaxDecls", api.MaxDecls, 60}, {"MaxCons", api.MaxCons, 20}, {"MaxArity", api.MaxArity, 4}, {"MaxRows", api.MaxRows, 20},
		{"MaxLocals", api.MaxLocals, 60}, {"MaxStack", api.MaxStack, 60}, {"MaxFuns", api.MaxFuns, 120}, {"MaxConsts", api.MaxConsts, 120},
		{"MaxCode", api.MaxCode, 400}, {"MaxFrames", api.MaxFrames, 300}, {"MaxThreads", api.MaxThreads, 8}, {"MaxTvars", api.MaxTvars, 4000},
		{"MaxSteps", api.MaxSteps, 20000}, {"MaxOut", api.MaxOut, 2000}, {"MaxPicks", api.MaxPicks, 4000},
	} {
		if l.got != l.want {
			t.Errorf("%s is %d, not %d", l.name, l.got, l.want)
		}
	}
}

// Errors: each has its number, and tells it.
func TestErrors(t *testing.T) {
	for _, l := range []struct {
		e    api.Errno
		n    int
		text string
	}{
		{api.OK, 0, "error 0"}, {api.ErrArg, 1, "error 1"}, {api.ErrRoom, 2, "error 2"}, {api.ErrZero, 3, "error 3"}, {api.ErrWord, 4, "error 4"},
		{api.ErrChar, 10, "error 10"}, {api.ErrOpen, 11, "error 11"}, {api.ErrLong, 12, "error 12"}, {api.ErrRange, 13, "error 13"},
		{api.ErrSyntax, 14, "error 14"}, {api.ErrDeep, 15, "error 15"}, {api.ErrMany, 16, "error 16"},
		{api.ErrName, 20, "error 20"}, {api.ErrTwice, 21, "error 21"}, {api.ErrArity, 22, "error 22"}, {api.ErrType, 23, "error 23"},
		{api.ErrEffect, 24, "error 24"}, {api.ErrLoop, 25, "error 25"}, {api.ErrCover, 26, "error 26"}, {api.ErrUseless, 27, "error 27"},
		{api.ErrCode, 30, "error 30"}, {api.ErrBytes, 31, "error 31"}, {api.ErrLocked, 32, "error 32"}, {api.ErrStale, 33, "error 33"},
		{api.ErrEnded, 34, "error 34"}, {api.ErrLine, 40, "error 40"},
	} {
		var told error = l.e
		if int(l.e) != l.n || told.Error() != l.text {
			t.Errorf("%d tells %q, not %q", int(l.e), told.Error(), l.text)
		}
	}
}
