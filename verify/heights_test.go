package verify

import (
	"testing"

	"capstan/api"
)

func TestP23_2Heights(t *testing.T) {
	high(t, bare(0, "IHold"), 0)
	high(t, bare(4, "IRep, IRep, IRep, IRep, IAdd, ISub, IMul, IBy"), 0, 1, 2, 3, 4, 3, 2, 1)
	high(t, bare(4, "IRep, ICopy, ICopy, IDrop, IDrop, IDrop, IHold"), 0, 1, 2, 3, 2, 1, 0)
	high(t, full(2, "INum 0, INeg, INot, IAbs, ICeil, IFloor, IScale 1, ISet 0, ITo"), 0, 1, 1, 1, 1, 1, 1, 1, 1)
	high(t, full(3, "IWin 0, ICron 0, IFail 3, IMin2, IMax2, ITo"), 0, 1, 2, 3, 2, 1)
	high(t, full(2, "IRep, IHave 2:5, IRep, INeg, ISet 2, IAdd, ITo"), 0, 1, 1, 2, 2, 2, 1)
	high(t, full(2, "ICron 0, IZero 5, IRep, IRep, IJump 8, IRep, INeg, IRep, IDiv, ITo"), 0, 1, 0, 1, 2, 0, 1, 1, 2, 1)
	high(t, full(3, "IRep, ITry 6, IWin 0, IWin 1, IMul, IDone 7, IRep, ISub, ITo"), 0, 1, 1, 2, 3, 2, 1, 2, 1)
	high(t, full(3, "IRep, ICopy, INum 0, ILess, IZero 7, IDrop, IHold, IDrop, IRep, ITo"), 0, 1, 2, 3, 2, 1, 0, 1, 0, 1)
}

// The height of what a jump leads to, however far it is; and with room for more than is reached.
func TestP23_2HeightsOfTargets(t *testing.T) {
	high(t, bare(4096, "IRep, IRep, IZero 6, INeg, INot, IBy, ITo"), 0, 1, 2, 1, 1, 1, 1)
	high(t, full(4096, "IHave 0:5, IRep, INeg, INeg, ISet 0, ICopy, IAdd, ITo"), 0, 0, 1, 1, 1, 1, 2, 1)
	high(t, bare(9, "IRep, IRep, ITry 6, IDrop, IRep, IDone 7, INeg, IAdd, ITo"), 0, 1, 2, 2, 1, 2, 2, 2, 1)
}

func TestP23_2Errors(t *testing.T) {
	for _, p := range []api.Program{
		{}, bare(0, "IRep, ITo"), bare(1, "ITo"), bare(1, "IRep, IHold"), bare(1, "IHold, IHold"), full(1, "IRep, ISet 3, ITo"), full(65, "IRep*64, ITo"),
	} {
		if heights, errno := Heights(p); len(heights) != 0 || errno != api.ErrVerify {
			t.Errorf("Heights(%s) = %s, %d", brief(p), brief(heights), errno)
		}
	}
}
