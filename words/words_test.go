// Package words holds what the document's section 'Words' says against package api, in which no file is added.
package words

import (
	"testing"

	"gaugehouse/api"
)

func TestP5ErrorsHaveTheirNumbers(t *testing.T) {
	for want, e := range []api.Errno{
		api.OK, api.ErrArg, api.ErrLarge, api.ErrShort, api.ErrForm, api.ErrOrder, api.ErrRange, api.ErrNone,
		api.ErrThere, api.ErrFull, api.ErrOld, api.ErrState, api.ErrSum, api.ErrFew, api.ErrOff, api.ErrLate,
	} {
		if int(e) != want {
			t.Errorf("error %d has number %d", want, e)
		}
	}
}

func TestP5LimitsHaveTheirNumbers(t *testing.T) {
	for _, c := range []struct {
		name      string
		has, want int64
	}{
		{"MaxBits", api.MaxBits, 80000}, {"MaxRun", api.MaxRun, 1000}, {"MaxLabels", api.MaxLabels, 10},
		{"MaxValue", api.MaxValue, 40}, {"MaxMatches", api.MaxMatches, 10}, {"MaxSeries", api.MaxSeries, 200},
		{"MaxCount", api.MaxCount, 1e9}, {"MaxT", api.MaxT, 1 << 40}, {"MaxTime", api.MaxTime, 1 << 60},
		{"MaxK", api.MaxK, 64}, {"MaxLevels", api.MaxLevels, 20}, {"MaxRows", api.MaxRows, 8},
		{"MaxCells", api.MaxCells, 200}, {"MaxNodes", api.MaxNodes, 100}, {"MaxText", api.MaxText, 4000},
		{"MaxName", api.MaxName, 20}, {"MaxPeers", api.MaxPeers, 20}, {"MaxTokens", api.MaxTokens, 20},
		{"MaxRecord", api.MaxRecord, 2000}, {"MaxDisk", api.MaxDisk, 30000}, {"MaxScript", api.MaxScript, 100},
		{"MaxWorkers", api.MaxWorkers, 16}, {"MaxTasks", api.MaxTasks, 60},
	} {
		if c.has != c.want {
			t.Errorf("%s is %d, want %d", c.name, c.has, c.want)
		}
	}
}

func TestP5KindsHaveTheirNumbers(t *testing.T) {
	for _, kinds := range [][]int{
		{api.MIs, api.MNot, api.MFront, api.MHas},
		{api.XNum, api.XSel, api.XSum, api.XMax, api.XCount, api.XAdd, api.XSub, api.XMul},
		{api.SJoin, api.SLive, api.SLeave, api.SGone},
	} {
		for i, kind := range kinds {
			if kind != i+1 {
				t.Errorf("kind %d of %v", i+1, kinds)
			}
		}
	}
}
