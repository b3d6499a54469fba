package run

import (
	"equipoise/api"
	"equipoise/design"
)

// Check returns what keeps phases and slots from being valid; OK, if they are.
func Check(p []api.Phase, x []api.Slot) api.Errno {
	if !within(len(x), 1, api.MaxPlaces) || !within(len(p), 1, api.MaxPhases) {
		return api.ErrMany
	}
	if !ordered(p) {
		return api.ErrOrder
	}
	if err := checkDesigns(p); err != api.OK {
		return err
	}
	return checkSlots(x)
}

// ordered reports whether the phases begin at the place 0, and one after the other.
func ordered(p []api.Phase) bool {
	for i := 1; i < len(p); i++ {
		if p[i].From <= p[i-1].From {
			return false
		}
	}
	return p[0].From == 0
}

// checkDesigns returns the first error of the designs: there are never fewer arms than before, and each design is valid.
func checkDesigns(p []api.Phase) api.Errno {
	arms := 0
	for _, phase := range p {
		d := phase.Design
		if len(d.Ratio) < arms {
			return api.ErrArm
		}
		arms = len(d.Ratio)
		if err := design.Check(d, arms); err != api.OK {
			return err
		}
	}
	return api.OK
}

// checkSlots returns the first error of the slots.
func checkSlots(x []api.Slot) api.Errno {
	for _, slot := range x {
		if !within(slot.Site, 0, api.MaxSites-1) {
			return api.ErrSite
		}
		if !within(slot.Stratum, 0, api.MaxStrata-1) {
			return api.ErrStratum
		}
	}
	return api.OK
}

// within reports whether n is from lo to hi.
func within(n, lo, hi int) bool { return n >= lo && n <= hi }
