package design

import (
	"equipoise/api"
	"equipoise/block"
	"equipoise/coin"
	"equipoise/urn"
)

// kind is a kind of design, where a unit arrives.
type kind interface {
	// choices returns what can be drawn.
	choices() []api.Choice
	// next returns the rows of the stratum and of the site after a draw of one of the choices; rows that stay are those of the state itself.
	next(c api.Choice) (stratum, site []int, ok bool)
}

// common is what all kinds have: a valid design, and the rows of a slot.
type common struct {
	design        api.Design
	stratum, site []int
}

// simple draws by the ratio, and remembers nothing.
type simple struct{ common }

// blocks draws from a block of the stratum.
type blocks struct{ common }

// urns draws from an urn of the stratum.
type urns struct{ common }

// coins draws such that the arms stay even in the stratum and at the site.
type coins struct{ common }

// kindOf returns the kind of a design, where a unit arrives; false, unless the design is valid, and the state and the slot fit.
func kindOf(d api.Design, s api.State, x api.Slot) (kind, bool) {
	if Check(d, len(d.Ratio)) != api.OK || !fits(s, x) {
		return nil, false
	}
	c := common{d, s.Rows[stratumRow(x)], s.Rows[siteRow(x)]}
	switch d.Kind {
	case api.DeBlock:
		return blocks{c}, true
	case api.DeUrn:
		return urns{c}, true
	case api.DeCoin:
		return coins{c}, true
	}
	return simple{c}, true
}

func (k simple) choices() []api.Choice {
	var l []api.Choice
	for arm, weight := range k.design.Ratio {
		if weight > 0 {
			l = append(l, api.Choice{Weight: weight, Arm: arm})
		}
	}
	return l
}

func (k simple) next(c api.Choice) (stratum, site []int, ok bool) {
	return k.stratum, k.site, true
}

func (k blocks) choices() []api.Choice { return block.Choices(k.design, k.stratum) }

func (k blocks) next(c api.Choice) (stratum, site []int, ok bool) {
	stratum, ok = block.Next(k.design, k.stratum, c)
	return stratum, k.site, ok
}

func (k urns) choices() []api.Choice { return urn.Choices(k.design, k.stratum) }

func (k urns) next(c api.Choice) (stratum, site []int, ok bool) {
	stratum, ok = urn.Next(k.design, k.stratum, c)
	return stratum, k.site, ok
}

func (k coins) choices() []api.Choice { return coin.Choices(k.design, k.stratum, k.site) }

func (k coins) next(c api.Choice) (stratum, site []int, ok bool) {
	stratum, inStratum := coin.Next(k.design, k.stratum, c.Arm)
	site, atSite := coin.Next(k.design, k.site, c.Arm)
	return stratum, site, inStratum && atSite
}
