package reclaim

import "reclaim/api"

func within(n, least, most int) bool { return n >= least && n <= most }

// isConfig adds Stack and Globals up only once both are known to be small, so that the sum can't run over.
func isConfig(c api.Config) bool {
	if !within(c.Blocks, 1, api.MaxBlocks) || !within(c.Stack, 1, api.MaxStack) || !within(c.Globals, 0, api.MaxGlobals) {
		return false
	}
	if !within(c.Budget, 1, api.MaxBudget) || !within(c.Over, 0, api.MaxOver) {
		return false
	}
	return within(c.Zero, c.Stack+c.Globals+1, api.MaxZero)
}
