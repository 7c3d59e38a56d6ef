package laws

import (
	"signalbroker/arbiter"
	"signalbroker/bound"
	"signalbroker/broker"
	"signalbroker/crc"
	"signalbroker/desk"
	"signalbroker/drive"
	"signalbroker/frame"
	"signalbroker/inbox"
	"signalbroker/junction"
	"signalbroker/lamp"
	"signalbroker/matrix"
	"signalbroker/message"
	"signalbroker/model"
	"signalbroker/monitor"
	"signalbroker/plan"
	"signalbroker/rank"
	"signalbroker/rate"
	"signalbroker/record"
	"signalbroker/registry"
	"signalbroker/request"
	"signalbroker/rights"
	"signalbroker/ring"
	"signalbroker/status"
	"signalbroker/stream"
	"signalbroker/token"
	"signalbroker/varint"
	"signalbroker/vehicle"
	"signalbroker/view"
	"signalbroker/window"
	"signalbroker/worst"
)

// faces returns the functions of the layers that have landed.
func faces() []face {
	return []face{
		{name: "crc.Sum", f: crc.Sum},
		{name: "crc.Update", f: crc.Update},
		{name: "varint.Size", f: varint.Size},
		{name: "varint.Encode", f: varint.Encode},
		{name: "varint.Decode", f: varint.Decode},
		{name: "frame.Size", f: frame.Size},
		{name: "frame.Encode", f: frame.Encode},
		{name: "frame.Parse", f: frame.Parse},
		{name: "stream.Valid", f: stream.Valid},
		{name: "stream.Put", f: stream.Put},
		{name: "stream.Take", f: stream.Take},
		{name: "stream.All", f: stream.All},
		{name: "message.Valid", f: message.Valid},
		{name: "message.Encode", f: message.Encode},
		{name: "message.Decode", f: message.Decode},
		{name: "message.Frame", f: message.Frame},
		{name: "message.ForServer", f: message.ForServer},
		{name: "matrix.Valid", f: matrix.Valid},
		{name: "matrix.Conflict", f: matrix.Conflict},
		{name: "matrix.Clash", f: matrix.Clash},
		{name: "matrix.Allowed", f: matrix.Allowed},
		{name: "plan.Junction", f: plan.Junction},
		{name: "plan.Agency", f: plan.Agency},
		{name: "plan.Config", f: plan.Config},
		{name: "plan.Groups", f: plan.Groups},
		{name: "plan.Of", f: plan.Of},
		{name: "lamp.Valid", f: lamp.Valid},
		{name: "lamp.Need", f: lamp.Need},
		{name: "lamp.NonRed", f: lamp.NonRed},
		{name: "lamp.Step", f: lamp.Step},
		{name: "lamp.Count", f: lamp.Count},
		{name: "lamp.Walk", f: lamp.Walk},
		{name: "ring.Init", f: ring.Init},
		{name: "ring.Valid", f: ring.Valid},
		{name: "ring.Set", f: ring.Set},
		{name: "ring.Step", f: ring.Step},
		{name: "monitor.Seen", f: monitor.Seen},
		{name: "monitor.Forbidden", f: monitor.Forbidden},
		{name: "junction.New", f: junction.New},
		{name: "junction.Valid", f: junction.Valid},
		{name: "junction.Step", f: junction.Step},
		{name: "junction.Reset", f: junction.Reset},
		{name: "junction.Lamps", f: junction.Lamps},
		{name: "worst.Transition", f: worst.Transition},
		{name: "worst.Reach", f: worst.Reach},
		{name: "rights.Valid", f: rights.Valid},
		{name: "rights.Within", f: rights.Within},
		{name: "rights.Needed", f: rights.Needed},
		{name: "rights.Permits", f: rights.Permits},
		{name: "token.New", f: token.New},
		{name: "token.Valid", f: token.Valid},
		{name: "token.Bytes", f: token.Bytes},
		{name: "token.Check", f: token.Check},
		{name: "token.Below", f: token.Below},
		{name: "token.Derive", f: token.Derive},
		{name: "token.Revoke", f: token.Revoke},
		{name: "token.Expire", f: token.Expire},
		{name: "vehicle.Valid", f: vehicle.Valid},
		{name: "vehicle.Find", f: vehicle.Find},
		{name: "vehicle.Count", f: vehicle.Count},
		{name: "vehicle.Register", f: vehicle.Register},
		{name: "vehicle.Remove", f: vehicle.Remove},
		{name: "rate.New", f: rate.New},
		{name: "rate.Valid", f: rate.Valid},
		{name: "rate.Tick", f: rate.Tick},
		{name: "rate.Take", f: rate.Take},
		{name: "registry.New", f: registry.New},
		{name: "registry.Valid", f: registry.Valid},
		{name: "registry.Tick", f: registry.Tick},
		{name: "registry.Open", f: registry.Open},
		{name: "registry.Do", f: registry.Do},
		{name: "window.Make", f: window.Make},
		{name: "window.Valid", f: window.Valid},
		{name: "window.Live", f: window.Live},
		{name: "window.Mark", f: window.Mark},
		{name: "request.Valid", f: request.Valid},
		{name: "request.Find", f: request.Find},
		{name: "request.Submit", f: request.Submit},
		{name: "request.Update", f: request.Update},
		{name: "request.Cancel", f: request.Cancel},
		{name: "request.Without", f: request.Without},
		{name: "request.Expire", f: request.Expire},
		{name: "request.Mark", f: request.Mark},
		{name: "request.Claims", f: request.Claims},
		{name: "rank.Emergency", f: rank.Emergency},
		{name: "rank.Start", f: rank.Start},
		{name: "rank.Level", f: rank.Level},
		{name: "rank.Locked", f: rank.Locked},
		{name: "rank.Less", f: rank.Less},
		{name: "rank.Best", f: rank.Best},
		{name: "arbiter.New", f: arbiter.New, tame: true},
		{name: "arbiter.Valid", f: arbiter.Valid},
		{name: "arbiter.End", f: arbiter.End},
		{name: "arbiter.Decide", f: arbiter.Decide},
		{name: "arbiter.Count", f: arbiter.Count},
		{name: "drive.Step", f: drive.Step},
		{name: "record.Of", f: record.Of},
		{name: "record.Flashing", f: record.Flashing},
		{name: "record.Size", f: record.Size},
		{name: "record.Bytes", f: record.Bytes},
		{name: "record.Parse", f: record.Parse},
		{name: "status.Code", f: status.Code},
		{name: "status.Codes", f: status.Codes, tame: true},
		{name: "status.Message", f: status.Message},
		{name: "status.Feed", f: status.Feed},
		{name: "inbox.Open", f: inbox.Open},
		{name: "inbox.Drop", f: inbox.Drop},
		{name: "inbox.Receive", f: inbox.Receive},
		{name: "inbox.Take", f: inbox.Take},
		{name: "desk.New", f: desk.New, tame: true},
		{name: "desk.Handle", f: desk.Handle},
		{name: "desk.Begin", f: desk.Begin},
		{name: "desk.Tick", f: desk.Tick},
		{name: "desk.Status", f: desk.Status, tame: true},
		{name: "model.New", f: model.New},
		{name: "model.Draw", f: model.Draw},
		{name: "model.Stuck", f: model.Stuck},
		{name: "model.Claims", f: model.Claims},
		{name: "model.Tick", f: model.Tick, tame: true},
		{name: "broker.New", f: broker.New},
		{name: "broker.Base", f: broker.Base},
		{name: "broker.Owner", f: broker.Owner},
		{name: "broker.Do", f: broker.Do, tame: true},
		{name: "broker.Run", f: broker.Run},
		{name: "view.Mine", f: view.Mine},
		{name: "view.Views", f: view.Views},
		{name: "view.Replay", f: view.Replay},
		{name: "bound.Bound", f: bound.Bound},
		{name: "bound.Streak", f: bound.Streak},
		{name: "bound.Longest", f: bound.Longest},
	}
}
