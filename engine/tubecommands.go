package engine

import (
	"strings"

	"stint/api"
	"stint/figures"
	"stint/yaml"
)

// The commands that do nothing to jobs.
type (
	useTube    struct{ name string }
	watchTube  struct{ name string }
	ignoreTube struct{ name string }
	pauseTube  struct {
		name  string
		ticks int
	}
	peekJob     struct{ id int }
	peekFirst   struct{ kind int } // the command's
	statsJob    struct{ id int }
	statsTube   struct{ name string }
	statsShop   struct{}
	listTubes   struct{}
	listUsed    struct{}
	listWatched struct{}
)

func (c useTube) do(t *turn) api.Reply {
	old := t.used()
	t.seats.Use(t.conn, c.name)
	t.forget(old)
	return listUsed{}.do(t)
}

func (c watchTube) do(t *turn) api.Reply {
	count, _ := t.seats.Watch(t.conn, c.name)
	return api.Reply{Kind: api.RepWatching, Number: count}
}

func (c ignoreTube) do(t *turn) api.Reply {
	count, err := t.seats.Ignore(t.conn, c.name)
	if err != api.OK {
		return only(api.RepNotIgnored)
	}
	t.forget(c.name)
	return api.Reply{Kind: api.RepWatching, Number: count}
}

func (c pauseTube) do(t *turn) api.Reply {
	if !t.isThere(c.name) {
		return only(api.RepNotFound)
	}
	x := t.tubes[c.name]
	x.pauses++
	x.pause, x.until = c.ticks, 0
	if c.ticks > 0 {
		x.until = t.now + c.ticks
	}
	t.tubes[strings.Clone(c.name)] = x // what is handed in is not kept
	t.stir(c.name)
	return only(api.RepPaused)
}

func (c peekJob) do(t *turn) api.Reply {
	j, there := t.yard.Get(c.id)
	if !there {
		return only(api.RepNotFound)
	}
	return api.Reply{Kind: api.RepFound, Id: j.Id, Body: j.Body}
}

func (c peekFirst) do(t *turn) api.Reply {
	first := t.yard.Ready
	switch c.kind {
	case api.CmdPeekDelayed:
		first = t.yard.Soonest
	case api.CmdPeekBuried:
		first = t.yard.Eldest
	}
	return peekJob{first(t.used())}.do(t)
}

func (c statsJob) do(t *turn) api.Reply {
	j, there := t.yard.Get(c.id)
	if !there {
		return only(api.RepNotFound)
	}
	return data(figures.Job(j, t.ledger.File(c.id), t.now))
}

func (c statsTube) do(t *turn) api.Reply {
	if !t.isThere(c.name) {
		return only(api.RepNotFound)
	}
	return data(figures.Tube(t.toldTube(c.name), t.now))
}

func (c statsShop) do(t *turn) api.Reply { return data(figures.Shop(t.Shop())) }

func (c listTubes) do(t *turn) api.Reply { return listed(t.tubeNames()) }

func (c listUsed) do(t *turn) api.Reply { return api.Reply{Kind: api.RepUsing, Tube: t.used()} }

func (c listWatched) do(t *turn) api.Reply {
	s, _ := t.seats.Get(t.conn)
	return listed(s.Watched)
}

func data(text []byte) api.Reply { return api.Reply{Kind: api.RepData, Body: text} }

// listed tells names, of which none is refused.
func listed(list []string) api.Reply {
	text, _ := yaml.List(list)
	return data(text)
}
