package world

import "stint/api"

// outsOf are acts as outs.
func outsOf(acts []api.Act) []api.Out {
	list := make([]api.Out, 0, len(acts))
	for _, a := range acts {
		list = append(list, api.Out{Kind: api.OutAct, Act: a})
	}
	return list
}

// follow is an event, and behind it those of a step's outs.
func (w *World) follow(first api.Event, outs []api.Out, s api.Step) []api.Event {
	return append([]api.Event{first}, w.carryOut(outs, s)...)
}

// carryOut carries out a step's outs; if it has a break, no more of them than that says, and then the power goes.
func (w *World) carryOut(outs []api.Out, s api.Step) []api.Event {
	if s.Break <= 0 {
		return w.carryAll(outs)
	}
	events := w.carryAll(outs[:min(s.Break-1, len(outs))])
	return append(events, w.lose(s.Keep))
}

// carryAll carries out all of some outs, and is what can be seen of them.
func (w *World) carryAll(outs []api.Out) []api.Event {
	var events []api.Event
	for _, x := range outs {
		switch x.Kind {
		case api.OutAct:
			w.disk.Do(x.Act) // never refused: the house sees to the room
		case api.OutSay:
			events = append(events, api.Event{Kind: api.EvSaid, Conn: x.Conn, Data: x.Data})
		case api.OutHang:
			events = append(events, api.Event{Kind: api.EvHung, Conn: x.Conn})
		case api.OutDone:
			events = append(events, api.Event{Kind: api.EvDone, Conn: x.Conn})
		}
	}
	return events
}

// lose lets the power go, and is what can be seen of that.
func (w *World) lose(keep []int) api.Event {
	w.disk.Crash(keep)
	w.house = nil
	return api.Event{Kind: api.EvDown, Now: w.now}
}
