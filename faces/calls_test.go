// Package faces holds the layers' calls, types and numbers against the chapters: it builds only while they are as listed there.
package faces

import (
	"wharfage/api"
	"wharfage/block"
	"wharfage/bound"
	"wharfage/clock"
	"wharfage/delta"
	"wharfage/dice"
	"wharfage/feas"
	"wharfage/fill"
	"wharfage/flow"
	"wharfage/graph"
	"wharfage/haul"
	"wharfage/hunt"
	"wharfage/inst"
	"wharfage/judge"
	"wharfage/least"
	"wharfage/move"
	"wharfage/order"
	"wharfage/parse"
	"wharfage/path"
	"wharfage/pile"
	"wharfage/plan"
	"wharfage/reach"
	"wharfage/real"
	"wharfage/set"
	"wharfage/sheet"
	"wharfage/show"
	"wharfage/solve"
	"wharfage/whole"
	"wharfage/word"
)

var (
	// Layer 1.
	_ func(int64, int64) (int64, bool) = whole.Add
	_ func(int64, int64) (int64, bool) = whole.Mul
	_ func([]int64) (int64, bool)      = whole.Sum
	_ func(int64, int64) int64         = whole.Ceil
	_ func(string) (int64, bool)       = whole.Parse
	_ func(int64) string               = whole.Text
	// Layer 2.
	_ func(float64) real.Kind           = real.Of
	_ func(float64, float64) bool       = real.Less
	_ func([]float64) int               = real.First
	_ func(int64, int64) float64        = real.Ratio
	_ func(int64, int64) float64        = real.Gap
	_ func(float64, float64) float64    = real.Cool
	_ func(int64, float64, uint32) bool = real.Accept
	_ func(float64) string              = real.Text
	// Layer 3.
	_ func(...int) set.Set           = set.Of
	_ func(set.Set, int) set.Set     = set.Set.With
	_ func(set.Set, int) set.Set     = set.Set.Without
	_ func(set.Set, int) bool        = set.Set.Has
	_ func(set.Set, set.Set) set.Set = set.Set.And
	_ func(set.Set, set.Set) set.Set = set.Set.Or
	_ func(set.Set, set.Set) set.Set = set.Set.Less
	_ func(set.Set) int              = set.Set.Len
	_ func(set.Set) int              = set.Set.First
	_ func(set.Set) []int            = set.Set.All
	// Layer 4.
	_ func() *pile.Pile                  = pile.New
	_ func(*pile.Pile, pile.Item)        = (*pile.Pile).Put
	_ func(*pile.Pile) (pile.Item, bool) = (*pile.Pile).Take
	_ func(*pile.Pile) int               = (*pile.Pile).Len
	// Layer 5.
	_ func(string) ([]word.Word, int, api.Errno)        = word.Split
	_ func(*word.Reader) int                            = (*word.Reader).Place
	_ func(*word.Reader) bool                           = (*word.Reader).More
	_ func(*word.Reader, string) bool                   = (*word.Reader).Is
	_ func(*word.Reader, string)                        = (*word.Reader).Must
	_ func(*word.Reader, int64, int64) int64            = (*word.Reader).Number
	_ func(string, func(*word.Reader)) (int, api.Errno) = word.Read
	// Layer 6.
	_ func(graph.Graph) api.Errno                      = graph.Graph.Check
	_ func(graph.Graph, int) bool                      = graph.Graph.Has
	_ func(graph.Graph, int) []int                     = graph.Graph.Out
	_ func(graph.Graph) graph.Graph                    = graph.Graph.Turned
	_ func(graph.Graph, int) []bool                    = graph.Graph.Reach
	_ func(graph.Graph, []int, int, int) (int64, bool) = graph.Graph.Joined
	// Layer 7.
	_ func(graph.Graph, int) (path.Tree, api.Errno) = path.From
	_ func(graph.Graph, int) []int                  = path.Cycle
	_ func(graph.Graph, int) (path.Tree, api.Errno) = path.Near
	_ func(path.Tree, graph.Graph, int) []int       = path.Tree.Way
	// Layer 8.
	_ func(graph.Graph) ([]int, bool)                 = order.Sort
	_ func(graph.Graph) []int                         = order.Cycle
	_ func(graph.Graph, []int64) ([]int64, api.Errno) = order.Late
	// Layer 9.
	_ func(flow.Net) api.Errno                             = flow.Net.Check
	_ func(flow.Net, int, int) api.Errno                   = flow.Net.Ends
	_ func(flow.Net, int, int) ([]int64, int64, api.Errno) = flow.Most
	_ func(flow.Net, []int64, int) []bool                  = flow.Cut
	_ func(flow.Net, []int64, int, int) (int64, bool)      = flow.Right
	// Layer 10.
	_ func(flow.Net, int, int, int64) (least.Result, api.Errno) = least.Least
	_ func(flow.Net, int, int, int64, least.Result) bool        = least.Right
	// Layer 11.
	_ func(inst.Instance) int                 = inst.Instance.Nodes
	_ func(inst.Instance, int) int            = inst.Instance.Sat
	_ func(inst.Instance, int) int            = inst.Instance.Customer
	_ func(inst.Instance) int64               = inst.Instance.Load
	_ func(inst.Instance) api.Errno           = inst.Instance.Check
	_ func(inst.Instance) inst.Instance       = inst.Instance.Clone
	_ func(inst.Instance, inst.Instance) bool = inst.Same
	// Layer 12.
	_ func(string) (inst.Instance, int, api.Errno) = parse.Parse
	// Layer 13.
	_ func(string, ...int64) string = show.Line
	_ func(inst.Instance) string    = show.Text
	// Layer 14.
	_ func(inst.Instance) []int64      = reach.Ready
	_ func(inst.Instance, int) []int64 = reach.Out
	_ func(inst.Instance, int) []int64 = reach.Back
	_ func(inst.Instance) []set.Set    = reach.Mays
	// Layer 15.
	_ func(inst.Instance) []int               = block.Counts
	_ func(inst.Instance, block.Block) bool   = block.Right
	_ func(inst.Instance) (block.Block, bool) = block.Find
	// Layer 16.
	_ func(inst.Instance, set.Set, int, int) int64 = bound.Weight
	_ func(inst.Instance) (bound.Bound, api.Errno) = bound.Find
	_ func(inst.Instance, bound.Bound) bool        = bound.Right
	// Layer 17.
	_ func(inst.Instance, []plan.Bike) []int64          = plan.Loads
	_ func(inst.Instance, plan.Plan) api.Errno          = plan.Check
	_ func(inst.Instance, ...int) int64                 = plan.Way
	_ func(plan.Bike, inst.Instance) []int              = plan.Bike.Nodes
	_ func(plan.Truck, inst.Instance) []int             = plan.Truck.Nodes
	_ func(inst.Instance, plan.Plan) (int64, api.Errno) = plan.Cost
	_ func(plan.Plan) plan.Plan                         = plan.Plan.Clone
	_ func(plan.Plan, plan.Plan) bool                   = plan.Same
	// Layer 18.
	_ func(clock.Times, clock.Times) bool                     = clock.Same
	_ func(inst.Instance, plan.Plan) (clock.Times, api.Errno) = clock.Early
	_ func(inst.Instance, plan.Plan, clock.Times) api.Errno   = clock.Check
	// Layer 19.
	_ func(feas.Sheet, feas.Sheet) bool                      = feas.Same
	_ func(inst.Instance, feas.Sheet) api.Errno              = feas.Check
	_ func(inst.Instance, plan.Plan) (feas.Sheet, api.Errno) = feas.Make
	// Layer 20.
	_ func(feas.Sheet) string                   = sheet.Text
	_ func(string) (feas.Sheet, int, api.Errno) = sheet.Parse
	// Layer 21.
	_ func(inst.Instance) ([]int, api.Errno)              = fill.Assign
	_ func(inst.Instance, []int64, plan.Bike) bool        = fill.Fits
	_ func(inst.Instance, []int) ([]plan.Bike, api.Errno) = fill.Bikes
	// Layer 22.
	_ func(inst.Instance, []int64) []int                      = haul.Order
	_ func(inst.Instance, []int64) ([]plan.Truck, api.Errno)  = haul.Trucks
	_ func(inst.Instance, []plan.Bike) (plan.Plan, api.Errno) = haul.Whole
	// Layer 23.
	_ func(int, []plan.Bike, move.Move) ([]plan.Bike, bool) = move.Apply
	// Layer 24.
	_ func(inst.Instance, []plan.Bike) int64                    = delta.Rounds
	_ func(inst.Instance, []plan.Bike, move.Move) (int64, bool) = delta.Change
	// Layer 25.
	_ func(dice.Script) api.Errno                  = dice.Script.Check
	_ func(*dice.Dice) uint32                      = (*dice.Dice).Next
	_ func(*dice.Dice, int) int                    = (*dice.Dice).Pick
	_ func([]uint32, func(*dice.Dice)) (int, bool) = dice.Try
	// Layer 26.
	_ func(*dice.Dice, int, []plan.Bike) move.Move                                      = hunt.Draw
	_ func(inst.Instance, feas.Sheet, dice.Script) (feas.Sheet, hunt.Report, api.Errno) = hunt.Improve
	// Layer 27.
	_ func(inst.Instance) (feas.Sheet, api.Errno)          = solve.First
	_ func(string, dice.Script) (solve.Outcome, api.Errno) = solve.Solve
	_ func(solve.Outcome) string                           = solve.Text
	// Layer 28.
	_ func(string, string) (int, int, api.Errno) = judge.Plan
	_ func(string, bound.Bound) bool             = judge.Bound
)
