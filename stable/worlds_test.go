package stable

import (
	"math"
	"slices"
	"strings"

	"posthouse/api"
)

// changed is a world of which one thing is changed, and what that is.
type changed struct {
	what  string
	world api.World
}

// full is a world of all servers and all hosts that there may be, with all lists filled.
func full() api.World {
	var l []api.Member
	for no := range 16 {
		l = append(l, at(no, byte(7*no+10)))
	}
	w := over(settled(l...))
	for no := range 16 {
		w.Overlay.Nodes[no].Fingers = slices.Concat(l[:no], l[no+1:])
		for i := range 32 {
			w.Servers[no].Table = append(w.Servers[no].Table, trig(place(byte(i)), toHost(i%16), 1000+i))
		}
		h := api.Host{No: no, Gate: 15 - no}
		for i := range 8 {
			h.Wants = append(h.Wants, wanted(place(byte(i)), 10+i))
			h.Hints = append(h.Hints, hinted(place(byte(i)), i, 100+i))
		}
		h.Inbox = slices.Repeat([]string{strings.Repeat("x", 64)}, 32)
		w.Hosts = append(w.Hosts, h)
	}
	w.Mail = api.Mail{Last: 64, Now: 9}
	for no := 1; no <= 64; no++ {
		w.Mail.Flight = append(w.Mail.Flight, api.Letter{No: no, From: no % 32, To: 31 - no%32, Data: strings.Repeat("x", 300)})
	}
	return w
}

func rightWorlds() []changed {
	alone := over(settled(api.Member{No: 7, Id: withKey(nil, 255)}))
	zeros := over(settled(api.Member{No: 0, Id: withKey(make([]byte, 16), 255)}))
	known := with(two(), func(w *api.World) {
		// One that does not live may be known by any identifier.
		w.Overlay.Nodes[0].Fingers = []api.Member{{No: 9, Id: place(1)}, {No: 5, Id: last(80)}}
		w.Overlay.Nodes[1].Pred = api.Member{No: 12}
	})
	empty := api.World{Overlay: api.Overlay{Nodes: []api.Node{}}, Servers: []api.Server{}, Hosts: []api.Host{}, Mail: api.Mail{Flight: []api.Letter{}}}
	hosts := api.World{Hosts: []api.Host{{No: 0}, {No: 1, Gate: 15}, {No: 15}}}
	late := with(two(), func(w *api.World) { w.Mail.Now, w.Mail.Last = maxTick, maxTick })
	stray := with(two(), func(w *api.World) {
		// A gate, a hint and a letter may be of those that are not there, and a trigger at a server that it does not belong to.
		w.Hosts[0].Gate, w.Hosts[0].Hints = 9, []api.Hint{hinted(place(1), 11, 5)}
		w.Servers[0].Table = []api.Trigger{trig(place(50), toHost(9), 7)}
		w.Mail.Flight = []api.Letter{{No: 7, From: 31, To: 14, Data: "no message"}, {No: 7}}
	})
	return []changed{
		{"nothing", api.World{}}, {"nothing, of lists", empty}, {"a server alone", alone}, {"a server at the first key", zeros},
		{"hosts alone", hosts}, {"two servers", two()}, {"servers that know dead ones", known}, {"all that may be there", full()},
		{"the last time", late}, {"strays", stray},
	}
}

// wrongWorlds are worlds of which just one thing may not be.
func wrongWorlds() []changed {
	var l []changed
	add := func(what string, change func(w *api.World)) { l = append(l, changed{what, with(two(), change)}) }
	for i := 16; i < 32; i++ {
		for no := range 2 {
			l = append(l, changed{"an identifier that is not the last one of its key", spoiledId(i, no, 254)}, changed{"one of zeros at its end", spoiledId(i, no, 0)})
		}
	}
	add("a server without its number", func(w *api.World) { w.Servers[0].No = 4 })
	add("servers out of order", func(w *api.World) { slices.Reverse(w.Servers) })
	add("a server twice", func(w *api.World) { w.Servers[1] = w.Servers[0] })
	add("a server too few", func(w *api.World) { w.Servers = w.Servers[:1] })
	add("the first server is not there", func(w *api.World) { w.Servers = w.Servers[1:] })
	add("no servers", func(w *api.World) { w.Servers = nil })
	add("a server too many", func(w *api.World) { w.Servers = append(w.Servers, api.Server{No: 9}) })
	add("a server too many ahead", func(w *api.World) { w.Servers = append([]api.Server{{No: 1}}, w.Servers...) })
	add("a node too few", func(w *api.World) { w.Overlay = settled(at(3, 40)) })
	add("no nodes", func(w *api.World) { w.Overlay = api.Overlay{} })
	add("nodes out of order", func(w *api.World) { slices.Reverse(w.Overlay.Nodes) })
	add("nodes and servers out of order", func(w *api.World) { slices.Reverse(w.Overlay.Nodes); slices.Reverse(w.Servers) })
	add("a node that may not be", func(w *api.World) { w.Overlay.Nodes[0].Succs = nil })
	add("one ahead of an unlike identifier", func(w *api.World) { w.Overlay.Nodes[0].Pred.Id = last(81) })
	add("nodes of the same identifier", func(w *api.World) { w.Overlay = settled(at(3, 40), at(5, 40)) })
	add("a secret too long", func(w *api.World) { w.Servers[0].Secret = strings.Repeat("s", 65) })
	add("a table that may not be", func(w *api.World) { w.Servers[1].Table = []api.Trigger{trig(place(1), toHost(16), 5)} })
	add("a trigger twice", func(w *api.World) {
		w.Servers[1].Table = []api.Trigger{trig(place(1), toHost(1), 5), trig(place(1), toHost(1), 6)}
	})
	add("hosts out of order", func(w *api.World) { slices.Reverse(w.Hosts) })
	add("a host twice", func(w *api.World) { w.Hosts[1].No = 1 })
	add("a host twice behind others", func(w *api.World) { w.Hosts = append(w.Hosts, api.Host{No: 2}) })
	for _, no := range []int{-1, 16, math.MaxInt} {
		add("a host's number", func(w *api.World) { w.Hosts[1].No = no })
		add("a host's gate", func(w *api.World) { w.Hosts[0].Gate = no })
		add("a server's number", func(w *api.World) { w.Overlay, w.Servers = settled(at(no, 40)), []api.Server{{No: no}} })
	}
	add("a want that may not be", func(w *api.World) { w.Hosts[0].Wants = []api.Want{wanted(place(1), 0)} })
	add("a hint that may not be", func(w *api.World) { w.Hosts[1].Hints = []api.Hint{hinted(place(1), 16, 0)} })
	add("a text too many", func(w *api.World) { w.Hosts[1].Inbox = make([]string, 33) })
	add("a time below 0", func(w *api.World) { w.Mail.Now = -1 })
	add("a time too late", func(w *api.World) { w.Mail.Now = maxTick + 1 })
	add("a last number too great", func(w *api.World) { w.Mail.Last = maxTick + 1 })
	add("letters without last numbers", func(w *api.World) { w.Mail = api.Mail{Flight: []api.Letter{{No: 1}}} })
	add("too many letters", func(w *api.World) { w.Mail.Flight = slices.Repeat([]api.Letter{{No: 1}}, 65) })
	add("a letter to no address", func(w *api.World) { w.Mail.Flight = []api.Letter{{No: 1, To: 32}} })
	add("a letter too long", func(w *api.World) { w.Mail.Flight = []api.Letter{{No: 1, Data: strings.Repeat("x", 301)}} })
	return l
}

// spoiledId is a world in which a byte of one server's identifier is another one.
func spoiledId(i, no int, b byte) api.World {
	l := []api.Member{at(3, 40), at(5, 80)}
	l[no].Id[i] = b
	return over(settled(l...))
}
