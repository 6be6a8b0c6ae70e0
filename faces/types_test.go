package faces

import (
	"testing"

	"wharfage/api"
	"wharfage/block"
	"wharfage/bound"
	"wharfage/clock"
	"wharfage/dice"
	"wharfage/feas"
	"wharfage/flow"
	"wharfage/graph"
	"wharfage/hunt"
	"wharfage/inst"
	"wharfage/least"
	"wharfage/move"
	"wharfage/order"
	"wharfage/path"
	"wharfage/pile"
	"wharfage/plan"
	"wharfage/real"
	"wharfage/set"
	"wharfage/solve"
	"wharfage/word"
)

// A conversion holds only between structs with the same fields, in the same order.
var (
	_ = uint64(set.Set(0))
	_ = struct {
		Key int64
		ID  int
	}(pile.Item{})
	_ = struct {
		Text string
		At   int
	}(word.Word{})
	_ = struct {
		From   int
		To     int
		Weight int64
	}(graph.Arc{})
	_ = struct {
		N    int
		Arcs []graph.Arc
	}(graph.Graph{})
	_ = struct {
		Far []int64
		By  []int
	}(path.Tree{})
	_ = struct {
		From int
		To   int
		Room int64
		Cost int64
	}(flow.Pipe{})
	_ = struct {
		N     int
		Pipes []flow.Pipe
	}(flow.Net{})
	_ = struct {
		Flow []int64
		Cost int64
		High []int64
	}(least.Result{})
	_ = struct {
		Many int
		Room int64
	}(inst.Fleet{})
	_ = struct {
		Room int64
		Hold int64
	}(inst.Sat{})
	_ = struct {
		Load  int64
		Open  int64
		Close int64
		Stay  int64
	}(inst.Customer{})
	_ = struct {
		End       int64
		Trucks    inst.Fleet
		Bikes     inst.Fleet
		Sats      []inst.Sat
		Customers []inst.Customer
		Cost      [][]int64
		Time      [][]int64
	}(inst.Instance{})
	_ = struct {
		Kind block.Kind
		Who  int
		Set  set.Set
	}(block.Block{})
	_ = struct {
		Out    int64
		From   []int
		Back   int64
		Trucks int64
		All    int64
		Highs  []int64
		Lows   []int64
	}(bound.Bound{})
	_ = struct {
		Sat  int
		Load int64
	}(plan.Stop{})
	_ = struct{ Stops []plan.Stop }(plan.Truck{})
	_ = struct {
		Sat   int
		Stops []int
	}(plan.Bike{})
	_ = struct {
		Trucks []plan.Truck
		Bikes  []plan.Bike
	}(plan.Plan{})
	_ = struct {
		Out    int64
		Starts []int64
		Back   int64
	}(clock.Ride{})
	_ = struct {
		Trucks [][]int64
		Bikes  []clock.Ride
	}(clock.Times{})
	_ = struct {
		Plan  plan.Plan
		Times clock.Times
		Cost  int64
	}(feas.Sheet{})
	_ = struct {
		Kind move.Kind
		A, I int
		B, J int
	}(move.Move{})
	_ = struct {
		Draws  []uint32
		Rounds int
		Heat   float64
		Cool   float64
	}(dice.Script{})
	_ = struct {
		Rounds int
		Fit    int
		Taken  int
		Draws  int
		Whole  bool
	}(hunt.Report{})
	_ = struct {
		Kind   solve.Kind
		At     int
		Err    api.Errno
		Block  block.Block
		Sheet  feas.Sheet
		Bound  bound.Bound
		Report hunt.Report
	}(solve.Outcome{})
)

func TestKinds(t *testing.T) {
	floats := [...]real.Kind{real.Below, real.Negative, real.MinusNought, real.Nought, real.Positive, real.Above, real.None}
	for i, k := range floats {
		if int(k) != i {
			t.Errorf("real's kind %d is %d", i, k)
		}
	}
	blocks := [...]block.Kind{block.None, block.Big, block.Late, block.Trucks, block.Bikes, block.Load, block.Count, block.Kinds}
	for i, k := range blocks {
		if int(k) != i {
			t.Errorf("block's kind %d is %d", i, k)
		}
	}
	moves := [...]move.Kind{move.Shift, move.Swap, move.Turn, move.Tails, move.Pair, move.Base, move.Kinds}
	for i, k := range moves {
		if int(k) != i {
			t.Errorf("move's kind %d is %d", i, k)
		}
	}
	outcomes := [...]solve.Kind{solve.Malformed, solve.Blocked, solve.NoPlan, solve.Planned, solve.Kinds}
	for i, k := range outcomes {
		if int(k) != i {
			t.Errorf("solve's kind %d is %d", i, k)
		}
	}
}

// TestLimits: the constants of api, and of chapters, as DOC.md lists them.
func TestLimits(t *testing.T) {
	for _, c := range []struct {
		name      string
		got, want int64
	}{
		{"api.MaxNum", api.MaxNum, 1000000000},
		{"api.MaxWhole", api.MaxWhole, 1000000000000000},
		{"api.MaxSats", api.MaxSats, 12},
		{"api.MaxCustomers", api.MaxCustomers, 48},
		{"api.MaxFleet", api.MaxFleet, 60},
		{"api.MaxText", api.MaxText, 131072},
		{"api.MaxRounds", api.MaxRounds, 10000},
		{"api.MaxDraws", api.MaxDraws, 100000},
		{"api.MaxNodes", api.MaxNodes, 1000},
		{"api.MaxArcs", api.MaxArcs, 20000},
		{"api.MaxWeight", api.MaxWeight, 1 << 40},
		{"api.Far", api.Far, 1 << 60},
		{"set.Most", set.Most, 64},
		{"order.Latest", order.Latest, 1 << 50},
		{"least.Much", least.Much, 10000},
		{"least.Dear", least.Dear, 1 << 32},
	} {
		if c.got != c.want {
			t.Errorf("%s is %d, not %d", c.name, c.got, c.want)
		}
	}
}

func TestErrors(t *testing.T) {
	for _, c := range []struct {
		name string
		got  api.Errno
		want int
	}{
		{"OK", api.OK, 0},
		{"ErrRange", api.ErrRange, 2},
		{"ErrForm", api.ErrForm, 3},
		{"ErrSize", api.ErrSize, 4},
		{"ErrWord", api.ErrWord, 5},
		{"ErrRest", api.ErrRest, 6},
		{"ErrCycle", api.ErrCycle, 7},
		{"ErrNone", api.ErrNone, 8},
		{"ErrCount", api.ErrCount, 9},
		{"ErrLoad", api.ErrLoad, 10},
		{"ErrFleet", api.ErrFleet, 11},
		{"ErrTime", api.ErrTime, 12},
		{"ErrDrop", api.ErrDrop, 13},
		{"ErrCost", api.ErrCost, 14},
		{"ErrRoute", api.ErrRoute, 15},
	} {
		if int(c.got) != c.want {
			t.Errorf("%s is %d, not %d", c.name, int(c.got), c.want)
		}
		if c.got.Error() == "" {
			t.Errorf("%s answers no word", c.name)
		}
	}
}
