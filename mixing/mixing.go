// Package mixing: how flows are spread evenly, so that like ones need not go by one hop.
package mixing

import "waymark/api"

// Mix mixes a number. Its products go beyond 64 bits, and what is above them is lost: so the document wants it.
func Mix(x uint64) uint64 {
	x = (x ^ x>>30) * api.MixA
	x = (x ^ x>>27) * api.MixB
	return x ^ x>>31
}
