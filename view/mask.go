package view

import (
	"iter"
	"slices"

	"signalbroker/api"
	"signalbroker/frame"
	"signalbroker/message"
)

// checkSum is what stands at the end of a frame.
type checkSum [4]byte

// Masked returns frames without what depends on the record.
func Masked(b []byte) []byte {
	masked := slices.Clone(b)
	if !isWhole(b) {
		return masked
	}
	for it, f := range frames(masked) {
		mask(it, f)
	}
	return masked
}

// Without returns the script without the requests of an agency, their updates and their cancellations.
func Without(cfg api.Config, script []api.Event, agency int) []api.Event {
	var l []api.Event
	for _, e := range script {
		e = event(e)
		if e.Kind == api.EvBytes && belongs(cfg, e, agency) && isWhole(e.Bytes) {
			e.Bytes = withoutRequests(e.Bytes)
		}
		l = append(l, e)
	}
	return l
}

// frames yields the frames with which b begins, each with its bytes.
func frames(b []byte) iter.Seq2[api.Item, []byte] {
	return func(yield func(api.Item, []byte) bool) {
		rest := b
		for {
			it, n, ok := frame.Parse(rest)
			if !ok || it.Code != api.OK || !yield(it, rest[:n]) {
				return
			}
			rest = rest[n:]
		}
	}
}

// isWhole reports whether b consists of whole frames.
func isWhole(b []byte) bool {
	n := 0
	for _, f := range frames(b) {
		n += len(f)
	}
	return n == len(b)
}

// mask clears the data and the check sum of a frame.
func mask(it api.Item, f []byte) {
	if it.Kind != api.KindStatus && it.Kind != api.KindFeed {
		return
	}
	m, code := message.Decode(it.Kind, it.Payload)
	if code != api.OK {
		return
	}
	var sum checkSum
	end := len(f) - len(sum)
	clear(f[end-len(m.Data) : end])
	copy(f[end:], sum[:])
}

// withoutRequests returns frames without those that submit, update or cancel a request.
func withoutRequests(b []byte) []byte {
	var rest []byte
	for it, f := range frames(b) {
		switch it.Kind {
		case api.KindSubmit, api.KindUpdate, api.KindCancel:
		default:
			rest = append(rest, f...)
		}
	}
	return rest
}
