package status_test

import (
	"bytes"
	"fmt"
	"math"
	"testing"

	"signalbroker/api"
	"signalbroker/message"
	"signalbroker/record"
	"signalbroker/status"
)

func leg(junction, phase, from, to int) api.Leg {
	return api.Leg{Junction: junction, Phase: phase, From: from, To: to, Since: -1}
}

// views are those of four junctions: one with a service, one without, one that flashes although it has one, and one with a service.
func views() []api.View {
	return []api.View{
		{Override: true, Colors: []int{1, 2, 0}, Counts: []int{3, 1, 0}},
		{Colors: []int{1, 2, 0}, Counts: []int{3, 1, 0}},
		{Flash: true, Override: true, Colors: []int{1, 2}, Counts: []int{0, 0}},
		{Override: true, Colors: []int{0, 1}, Counts: []int{0, 9}},
	}
}

func TestCode(t *testing.T) {
	for _, x := range []struct {
		l    api.Leg
		now  int
		want int
	}{
		{leg(0, 0, 5, 9), 4, api.LegIdle},
		{leg(0, 0, 5, 9), 5, api.LegGranted},
		{leg(0, 0, 5, 9), 9, api.LegGranted},
		{leg(0, 0, 5, 9), 10, api.LegIdle},
		{leg(0, 1, 5, 9), 7, api.LegWaiting},
		{leg(0, 2, 5, 9), 7, api.LegWaiting},
		{leg(0, 2, 5, 9), 11, api.LegIdle},
		{leg(0, 3, 5, 9), 7, api.LegIdle},
		{leg(0, -1, 5, 9), 7, api.LegIdle},
		{leg(0, math.MaxInt, 5, 9), 7, api.LegIdle},
		{leg(1, 0, 5, 9), 7, api.LegWaiting},
		{leg(1, 1, 5, 9), 7, api.LegWaiting},
		{leg(1, 3, 5, 9), 7, api.LegIdle},
		{leg(2, 0, 5, 9), 7, api.LegWaiting},
		{leg(2, 1, 5, 9), 7, api.LegWaiting},
		{leg(2, 2, 5, 9), 7, api.LegIdle},
		{leg(3, 0, 5, 9), 7, api.LegWaiting},
		{leg(3, 1, 5, 9), 7, api.LegGranted},
		{leg(4, 0, 5, 9), 7, api.LegIdle},
		{leg(-1, 0, 5, 9), 7, api.LegIdle},
		{leg(math.MinInt, 0, 5, 9), 7, api.LegIdle},
	} {
		if c := status.Code(x.l, views(), x.now); c != x.want {
			t.Errorf("Code(%v) at %d = %d, not %d", x.l, x.now, c, x.want)
		}
		since := x.l
		since.Since = 6
		if c := status.Code(since, views(), x.now); c != x.want {
			t.Errorf("Code(%v) at %d = %d, not %d", since, x.now, c, x.want)
		}
	}
	if c := status.Code(leg(0, 0, 0, 9), nil, 5); c != api.LegIdle {
		t.Errorf("Code without views = %d", c)
	}
}

func TestCodes(t *testing.T) {
	l := []api.Request{
		{ID: 3, Legs: []api.Leg{leg(0, 2, 0, 9)}},
		{ID: 5, Legs: []api.Leg{leg(3, 1, 0, 9), leg(0, 0, 8, 9), leg(2, 0, 5, 5)}},
		{ID: 9, Legs: []api.Leg{leg(1, 0, 0, 9), leg(0, 0, 0, 9)}},
	}
	for _, x := range []struct {
		l     []api.Request
		quota int
		want  []byte
	}{
		{nil, 0, nil},
		{nil, 2, make([]byte, 6)},
		{l[:1], 1, []byte{2, 0, 0}},
		{l[:2], 2, []byte{2, 0, 0, 3, 1, 2}},
		{l, 3, []byte{2, 0, 0, 3, 1, 2, 2, 3, 0}},
		{l, 4, []byte{2, 0, 0, 3, 1, 2, 2, 3, 0, 0, 0, 0}},
		{l[1:2], 4, []byte{3, 1, 2, 0, 0, 0, 0, 0, 0, 0, 0, 0}},
	} {
		if got := status.Codes(x.l, x.quota, views(), 5); !bytes.Equal(got, x.want) {
			t.Errorf("Codes for the quota %d = %v, not %v", x.quota, got, x.want)
		}
	}
}

func expectMessage(t *testing.T, got, want api.Message) {
	t.Helper()
	if fmt.Sprint(got) != fmt.Sprint(want) || !message.Valid(got) {
		t.Errorf("%v, not %v", got, want)
	}
}

func TestMessages(t *testing.T) {
	codes := []byte{1, 2, 3}
	for _, now := range []int{0, 7, api.MaxTick} {
		data := append(record.Bytes(views()), codes...)
		expectMessage(t, status.Message(now, views(), codes), api.Message{Kind: api.KindStatus, Args: []int{now}, Data: data})
		expectMessage(t, status.Message(now, nil, codes), api.Message{Kind: api.KindStatus, Args: []int{now}, Data: codes})
		expectMessage(t, status.Message(now, views(), nil), api.Message{Kind: api.KindStatus, Args: []int{now}, Data: record.Bytes(views())})
		expectMessage(t, status.Feed(now, views()), api.Message{Kind: api.KindFeed, Args: []int{now}, Data: record.Bytes(views())})
		expectMessage(t, status.Feed(now, nil), api.Message{Kind: api.KindFeed, Args: []int{now}})
	}
	status.Message(1, nil, codes).Data[0] = 9
	if codes[0] != 1 {
		t.Error("the codes are shared")
	}
}
