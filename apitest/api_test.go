// Package apitest holds package api, as it is given, against the document's sections 'Limits' and 'Errors'.
package apitest

import (
	"errors"
	"strconv"
	"strings"
	"testing"

	"massif/api"
)

func TestLimits(t *testing.T) {
	for _, row := range []struct {
		name      string
		got, want uint64
	}{
		{"MaxItem", api.MaxItem, 1048576},
		{"MaxItems", api.MaxItems, 65536},
		{"MaxLeaves", api.MaxLeaves, 1099511627776},
		{"MaxFile", api.MaxFile, 268435456},
		{"MaxK", api.MaxK, 32},
		{"Sector", api.Sector, 64},
		{"NodeLen", api.NodeLen, 40},
		{"MarkLen", api.MarkLen, 64},
		{"KindPath", api.KindPath, 1},
		{"KindBatch", api.KindBatch, 2},
		{"KindKin", api.KindKin, 3},
		{"FateNone", api.FateNone, 0},
		{"FateFail", api.FateFail, 1},
		{"FateFull", api.FateFull, 2},
		{"FateDoubt", api.FateDoubt, 3},
		{"FateCrash", api.FateCrash, 4},
		{"FateLate", api.FateLate, 5},
	} {
		if row.got != row.want {
			t.Errorf("Limits: %s is %d, want %d", row.name, row.got, row.want)
		}
	}
}

func TestErrors(t *testing.T) {
	for _, row := range []struct {
		name string
		got  api.Errno
		want int
	}{
		{"OK", api.OK, 0},
		{"ErrSize", api.ErrSize, 30},
		{"ErrIndex", api.ErrIndex, 31},
		{"ErrSet", api.ErrSet, 40},
		{"ErrOrder", api.ErrOrder, 41},
		{"ErrShort", api.ErrShort, 60},
		{"ErrForm", api.ErrForm, 61},
		{"ErrStrength", api.ErrStrength, 70},
		{"ErrPeaks", api.ErrPeaks, 90},
		{"ErrItem", api.ErrItem, 100},
		{"ErrMany", api.ErrMany, 101},
		{"ErrWire", api.ErrWire, 140},
		{"ErrProof", api.ErrProof, 150},
		{"ErrDown", api.ErrDown, 170},
		{"ErrFault", api.ErrFault, 171},
		{"ErrRoom", api.ErrRoom, 172},
		{"ErrPlace", api.ErrPlace, 173},
		{"ErrRecord", api.ErrRecord, 180},
		{"ErrBroken", api.ErrBroken, 190},
		{"ErrLame", api.ErrLame, 191},
		{"ErrNodes", api.ErrNodes, 192},
		{"ErrClosed", api.ErrClosed, 200},
		{"ErrFork", api.ErrFork, 210},
		{"ErrOld", api.ErrOld, 211},
		{"ErrLine", api.ErrLine, 220},
		{"ErrState", api.ErrState, 221},
	} {
		if int(row.got) != row.want {
			t.Errorf("Errors: %s is %d, want %d", row.name, int(row.got), row.want)
		}
		if text := row.got.Error(); !strings.Contains(text, strconv.Itoa(row.want)) {
			t.Errorf("Errors: %s tells %q, without its number", row.name, text)
		}
	}
}

func TestErrnoIsAnError(t *testing.T) {
	var err error = api.ErrLame
	if !errors.Is(err, api.ErrLame) || errors.Is(err, api.ErrFault) {
		t.Errorf("Errors: an Errno is not told from another by errors.Is")
	}
	var number api.Errno
	if !errors.As(err, &number) || number != api.ErrLame {
		t.Errorf("Errors: an Errno is not found by errors.As")
	}
}
