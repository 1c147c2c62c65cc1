// Package limits holds package api against the document: its numbers are part of what callers and scripts see.
package limits

import (
	"testing"

	"manciple/api"
)

func TestLimits(t *testing.T) {
	for _, c := range []struct {
		name      string
		got, want int
	}{
		{"MaxFile", api.MaxFile, 80}, {"MaxFiles", api.MaxFiles, 200}, {"MaxRoom", api.MaxRoom, 4194304},
		{"MaxHead", api.MaxHead, 4096}, {"MaxFields", api.MaxFields, 32}, {"MaxStart", api.MaxStart, 1024},
		{"MaxWaste", api.MaxWaste, 4096}, {"MaxBlob", api.MaxBlob, 1048576}, {"MaxRepo", api.MaxRepo, 128},
		{"MaxTag", api.MaxTag, 128}, {"MaxType", api.MaxType, 100}, {"MaxTags", api.MaxTags, 64},
		{"MaxBlobs", api.MaxBlobs, 64}, {"MaxSlip", api.MaxSlip, 1024}, {"MaxGuests", api.MaxGuests, 16},
		{"MaxCables", api.MaxCables, 8}, {"MaxFlights", api.MaxFlights, 16}, {"MaxRetries", api.MaxRetries, 5},
		{"MaxStrikes", api.MaxStrikes, 10}, {"MaxTick", api.MaxTick, 1099511627776}, {"MaxWait", api.MaxWait, 1048576},
		{"MaxKeep", api.MaxKeep, 16384}, {"Block", api.Block, 256}, {"MaxScript", api.MaxScript, 65536}, {"MaxMoves", api.MaxMoves, 600},
	} {
		if c.got != c.want {
			t.Errorf("%s is %d, want %d", c.name, c.got, c.want)
		}
	}
}

func TestErrorsAreNumbersOfTheirOwn(t *testing.T) {
	for want, got := range []api.Errno{
		api.OK, api.ErrArg, api.ErrNil, api.ErrForm, api.ErrLong, api.ErrSum, api.ErrFull, api.ErrNone, api.ErrState,
		api.ErrTwice, api.ErrName, api.ErrIO, api.ErrDown, api.ErrWord, api.ErrRange, api.ErrMethod, api.ErrTime, api.ErrShort,
	} {
		if got != api.Errno(want) {
			t.Errorf("the error at %d is %d", want, got)
		}
	}
}
