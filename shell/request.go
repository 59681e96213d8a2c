package shell

import (
	"purser/api"
	"purser/tariff"
	"purser/wire"
)

// noLimit is the limit of a node that has none.
const noLimit = -1

// requestOf answers the request that a line asks for by its first word and its numbers.
func requestOf(word string, n []int) wire.Request {
	switch word {
	case "org":
		return wire.Request{Kind: wire.Create, Node: n[0], Sort: api.Org, Limit: noLimit}
	case "team":
		return wire.Request{Kind: wire.Create, Node: n[0], Parent: n[1], Sort: api.Team, Limit: noLimit}
	case "project":
		return wire.Request{Kind: wire.Create, Node: n[0], Parent: n[1], Sort: api.Project, Limit: noLimit}
	case "move":
		return wire.Request{Kind: wire.Move, Node: n[0], Parent: n[1]}
	case "shut":
		return wire.Request{Kind: wire.Shut, Node: n[0]}
	case "limit":
		return wire.Request{Kind: wire.Limit, Node: n[0], Limit: n[1]}
	case "topup":
		return wire.Request{Kind: wire.TopUp, Node: n[0], Amount: n[1]}
	case "flat":
		return price(n[0], api.Graduated, n[1], api.Tier{Price: n[2]})
	case "volume":
		return price(n[0], api.Volume, n[1], api.Tier{Upto: n[3], Price: n[2]}, api.Tier{Price: n[4]})
	case "open":
		return wire.Request{Kind: wire.Initial, Session: n[0], Node: n[1], Items: []wire.Item{{Group: n[2], Want: n[3]}}}
	case "more":
		return wire.Request{Kind: wire.Update, Session: n[0], Number: n[1], Items: []wire.Item{{Group: n[2], Used: n[3], Want: n[4]}}}
	case "close":
		return wire.Request{Kind: wire.Terminate, Session: n[0], Number: n[1], Items: []wire.Item{{Group: n[2], Used: n[3]}}}
	case "event":
		return wire.Request{Kind: wire.Event, Number: n[0], Node: n[1], Group: n[2], Units: n[3]}
	case "refund":
		return wire.Request{Kind: wire.Refund, Number: n[0], Of: n[1]}
	case "roll":
		return wire.Request{Kind: wire.Roll}
	case "balance":
		return wire.Request{Kind: wire.Balance, Node: n[0]}
	case "bill":
		return wire.Request{Kind: wire.Bill, Node: n[0], Period: n[1]}
	}
	return wire.Request{}
}

// price answers the request that gives a group a plan of one tariff, whatever the time.
func price(group, mode, block int, tiers ...api.Tier) wire.Request {
	base := api.Tariff{Group: group, Mode: mode, Block: block, Tiers: tiers}
	return wire.Request{Kind: wire.Price, Plan: tariff.Plan{Base: base}}
}
