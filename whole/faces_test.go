package whole

import (
	"testing"

	"selvage/api"
	"selvage/build"
	"selvage/code"
	"selvage/core"
	"selvage/cover"
	"selvage/fold"
	"selvage/gen"
	"selvage/heap"
	"selvage/infer"
	"selvage/ints"
	"selvage/lex"
	"selvage/lines"
	"selvage/machine"
	"selvage/parse"
	"selvage/prims"
	"selvage/sched"
	"selvage/show"
	"selvage/strs"
	"selvage/tl2"
	"selvage/tree"
	"selvage/types"
	"selvage/verify"
	"selvage/vm"
)

// The calls that the chapters list, in their order, are there with just these signatures: that this function compiles is the test.
func TestFaces(t *testing.T) {
	var _ func(int) int = ints.Wrap
	var _ func(string, int, int) (int, api.Errno) = ints.Do
	var _ func(int) int = ints.Tag
	var _ func(int) (int, bool) = ints.Untag
	var _ func(int) int = ints.Point
	var _ func(int) (int, bool) = ints.At
	var _ func(int) string = ints.Show
	var _ func(string) (int, api.Errno) = ints.Read
	var _ func(int) *heap.Heap = heap.New
	var _ func(*heap.Heap) int = (*heap.Heap).Half
	var _ func(*heap.Heap) int = (*heap.Heap).Used
	var _ func(*heap.Heap, int, []int) (int, api.Errno) = (*heap.Heap).Make
	var _ func(*heap.Heap, int) bool = (*heap.Heap).Is
	var _ func(*heap.Heap, int) bool = (*heap.Heap).May
	var _ func(*heap.Heap, int) int = (*heap.Heap).Tag
	var _ func(*heap.Heap, int) []int = (*heap.Heap).Fields
	var _ func(*heap.Heap, int, int) (int, api.Errno) = (*heap.Heap).Get
	var _ func(*heap.Heap, int, int, int) api.Errno = (*heap.Heap).Set
	var _ func(*heap.Heap, []int) ([]int, api.Errno) = (*heap.Heap).Collect
	var _ func(*heap.Heap, []int) (int, api.Errno) = (*heap.Heap).Reach
	var _ func(string) ([]int, api.Errno) = strs.Pack
	var _ func([]int) (string, api.Errno) = strs.Unpack
	var _ func(string, string) (string, api.Errno) = strs.Join
	var _ func(string) string = strs.Quote
	var _ func(string) (string, int, api.Errno) = strs.Unquote
	var _ func(string) ([]api.Token, int, api.Errno) = lex.Tokens
	var _ func(string) bool = lex.Key
	var _ func(string) (api.Node, int, api.Errno) = parse.Program
	var _ func(api.Node, api.Node) bool = parse.Same
	var _ func(api.Node) (string, api.Errno) = show.Program
	var _ func() *types.State = types.New
	var _ func(*types.State) api.Type = (*types.State).Fresh
	var _ func(*types.State, api.Type) bool = (*types.State).May
	var _ func(*types.State, api.Type, api.Type) api.Errno = (*types.State).Unify
	var _ func(*types.State, api.Type) api.Type = (*types.State).Apply
	var _ func(*types.State, api.Type) []int = (*types.State).Free
	var _ func(*types.State, api.Type, []api.Type) api.Scheme = (*types.State).General
	var _ func(*types.State, api.Scheme) api.Type = (*types.State).Instance
	var _ func(api.Type) string = types.Show
	var _ func(api.Node) (api.Result, int, api.Errno) = infer.Program
	var _ func([]api.Node, []api.Con) (int, api.Errno) = cover.Check
	var _ func([]api.Node, []api.Con) (api.Tree, api.Errno) = tree.Build
	var _ func(api.Tree, api.Value) int = tree.Walk
	var _ func(api.Node) []api.Place = tree.Names
	var _ func(api.Node) api.Node = fold.Exp
	var _ func(api.Node) api.Node = fold.Program
	var _ func(api.Node) []string = fold.Free
	var _ func(api.Node, []api.Con) ([]api.Fun, int, api.Errno) = core.Program
	var _ func(api.Code) bool = code.May
	var _ func(api.Code) ([]byte, api.Errno) = code.Encode
	var _ func([]byte) (api.Code, api.Errno) = code.Decode
	var _ func(int) int = code.Uses
	var _ func(api.Code) api.Errno = verify.Code
	var _ func(api.Code, int) []int = verify.Depths
	var _ func([]api.Fun, []api.Con, int) (api.Code, int, api.Errno) = gen.Code
	var _ func(*heap.Heap, string) (int, api.Errno) = prims.Text
	var _ func(*heap.Heap, int) (string, api.Errno) = prims.Str
	var _ func(*heap.Heap, int, int) (int, api.Errno) = prims.Join
	var _ func(int, int, int) (int, api.Errno) = prims.Sum
	var _ func(*heap.Heap, int, []int) (int, api.Errno) = prims.Close
	var _ func(*heap.Heap, int) (int, []int, api.Errno) = prims.Open
	var _ func(*heap.Heap, int) (int, api.Errno) = prims.Case
	var _ func(api.Code) *vm.Thread = vm.Main
	var _ func(api.Code, *heap.Heap, int) *vm.Thread = vm.Spawn
	var _ func(*vm.Thread, api.Code, *heap.Heap, []int) api.Act = (*vm.Thread).Step
	var _ func(*vm.Thread, int) = (*vm.Thread).Put
	var _ func(*vm.Thread) *vm.Thread = (*vm.Thread).Copy
	var _ func(*vm.Thread) bool = (*vm.Thread).Other
	var _ func(*vm.Thread) []int = (*vm.Thread).Roots
	var _ func(*vm.Thread, []int) = (*vm.Thread).Set
	var _ func(*vm.Thread) bool = (*vm.Thread).Alive
	var _ func() *tl2.Engine = tl2.New
	var _ func(*tl2.Engine, int) (int, api.Errno) = (*tl2.Engine).Make
	var _ func(*tl2.Engine, int) api.Errno = (*tl2.Engine).Begin
	var _ func(*tl2.Engine, int, int) (int, api.Errno) = (*tl2.Engine).Read
	var _ func(*tl2.Engine, int, int, int) api.Errno = (*tl2.Engine).Write
	var _ func(*tl2.Engine, int) api.Errno = (*tl2.Engine).Part
	var _ func(*tl2.Engine, int) api.Errno = (*tl2.Engine).Join
	var _ func(*tl2.Engine, int) api.Errno = (*tl2.Engine).Undo
	var _ func(*tl2.Engine, int) api.Errno = (*tl2.Engine).Valid
	var _ func(*tl2.Engine, int) (int, api.Errno) = (*tl2.Engine).Step
	var _ func(*tl2.Engine, int) api.Errno = (*tl2.Engine).Abort
	var _ func(*tl2.Engine, int) bool = (*tl2.Engine).Active
	var _ func(*tl2.Engine) int = (*tl2.Engine).Clock
	var _ func(*tl2.Engine, int) int = (*tl2.Engine).Start
	var _ func(*tl2.Engine, int) []int = (*tl2.Engine).Reads
	var _ func(*tl2.Engine, int, int) bool = (*tl2.Engine).Newer
	var _ func(*tl2.Engine, int) (int, api.Errno) = (*tl2.Engine).Value
	var _ func(*tl2.Engine) []int = (*tl2.Engine).Words
	var _ func(*tl2.Engine, []int) = (*tl2.Engine).Set
	var _ func() *sched.Table = sched.New
	var _ func(*sched.Table) (int, api.Errno) = (*sched.Table).Add
	var _ func(*sched.Table) int = (*sched.Table).Len
	var _ func(*sched.Table) []int = (*sched.Table).Ready
	var _ func(*sched.Table, int) (int, bool) = (*sched.Table).Pick
	var _ func(*sched.Table, int, []int) api.Errno = (*sched.Table).Wait
	var _ func(*sched.Table, int) []int = (*sched.Table).Wake
	var _ func(*sched.Table, int) api.Errno = (*sched.Table).End
	var _ func(*sched.Table) int = (*sched.Table).Status
	var _ func(api.Code, int) *machine.Machine = machine.New
	var _ func(*machine.Machine, int) int = (*machine.Machine).Step
	var _ func(*machine.Machine, []int) int = (*machine.Machine).Run
	var _ func(*machine.Machine) int = (*machine.Machine).Status
	var _ func(*machine.Machine) string = (*machine.Machine).Out
	var _ func(*machine.Machine) []api.Event = (*machine.Machine).Events
	var _ func(*machine.Machine) int = (*machine.Machine).Backs
	var _ func(*machine.Machine) int = (*machine.Machine).Used
	var _ func(*machine.Machine) *sched.Table = (*machine.Machine).Threads
	var _ func(*machine.Machine) *tl2.Engine = (*machine.Machine).Engine
	var _ func(string) (api.Code, int, api.Errno) = build.Compile
	var _ func(string) ([]byte, int, api.Errno) = build.Bytes
	var _ func(string) ([]int, api.Errno) = lines.Script
	var _ func([]int) (string, api.Errno) = lines.Print
	var _ func(api.Event) string = lines.Show
	var _ func(string, int, string) string = lines.Run
}
