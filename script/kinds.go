package script

import "bellows/api"

// kind is what acts of a kind have: how many numbers may stand in Core, and how many in Line, from 0 on. What a kind does not have is 0, so there 1 stands; and where there is no such kind, no number may.
type kind struct{ cores, lines int }

var kinds = [...]kind{
	api.ActExec:  {api.MaxCores, 1},
	api.ActDrain: {api.MaxCores, 1},
	api.ActUp:    {api.MaxCores, 1},
	api.ActAns:   {api.MaxCores, 1},
	api.ActDn:    {api.MaxCores, 1},
	api.ActPush:  {1, api.MaxLines},
	api.ActEvict: {api.MaxCores, api.MaxLines},
	api.ActDrop:  {1, api.MaxLines},
	api.ActMem:   {1, api.MaxLines},
	api.ActFail:  {1, 1},
}
