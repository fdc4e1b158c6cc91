package part

import (
	"cmp"
	"slices"

	"trommel/api"
	"trommel/key"
	"trommel/post"
)

// opened is a list that a match opens.
type opened struct {
	api.Key
	list *post.List
}

// Match are the numbers of those that hold.
func (p *Part) Match(event []api.Pair) []int {
	var ids []int
	p.open(event, func(part int, lists []opened) {
		p.judge(part, lists, func(id int, holds bool) {
			if holds {
				ids = append(ids, id)
			}
		})
	})
	slices.Sort(ids)
	return ids
}

// Trace is what a match opens and judges.
func (p *Part) Trace(event []api.Pair) api.Trace {
	var t api.Trace
	p.open(event, func(part int, lists []opened) {
		for _, o := range lists {
			if posts := len(p.seen(o.list)); posts > 0 {
				t.Lists = append(t.Lists, api.Opened{Part: part, Key: o.Key, Posts: posts})
			}
		}
		p.judge(part, lists, func(id int, _ bool) { t.Judged = append(t.Judged, id) })
	})
	slices.Sort(t.Judged)
	return t
}

// open tells of each partition that may have what an event meets, with its
// lists under the event's keys, rising.
func (p *Part) open(event []api.Pair, tell func(part int, lists []opened)) {
	keys := key.Event(event)
	most := attrs(keys)
	// It names no attribute: no key with a list is ahead of it. Above
	// partition 0 there is no list under it.
	keys = slices.Insert(keys, 0, key.Zero())
	for part := range most + 1 {
		if p.alive[part] > 0 {
			tell(part, p.under(part, keys))
		}
	}
}

// under are the lists of a partition under some keys.
func (p *Part) under(part int, keys []api.Key) []opened {
	var lists []opened
	for _, k := range keys {
		if list, there := p.lists[place{k, part}]; there {
			lists = append(lists, opened{k, list})
		}
	}
	return lists
}

// judge tells of each live conjunction on which enough lists of its partition
// stand, and whether it holds.
func (p *Part) judge(part int, lists []opened, tell func(id int, holds bool)) {
	cursors := make([]*post.Cursor, len(lists))
	for i, o := range lists {
		cursors[i] = o.list.Cursor()
	}
	// In partition 0 the list under the zero key is enough. Above it each list
	// in which a conjunction is in is of another attribute that it asks for:
	// where it isn't out, as many as its partition are all of them.
	walk(cursors, max(part, 1), func(id int, out bool) {
		if !p.held[id].dead {
			tell(id, !out)
		}
	})
}

// walk tells, rising, of each number on which so many of the cursors or more
// come to stand, and whether one of its posts is out. Each cursor stands at a
// post.
func walk(cursors []*post.Cursor, need int, tell func(id int, out bool)) {
	slices.SortFunc(cursors, byNumber)
	for len(cursors) >= need {
		// Ahead of this number there are fewer cursors than are needed.
		goal := number(cursors[need-1])
		if number(cursors[0]) < goal {
			cursors[0].Skip(goal)
			cursors = settle(cursors)
			continue
		}
		out := false
		for len(cursors) > 0 && number(cursors[0]) == goal {
			q, _ := cursors[0].Post()
			out = out || q.Out
			cursors[0].Next()
			cursors = settle(cursors)
		}
		tell(goal, out)
	}
}

// settle puts the first cursor, which has gone on, among the others, which
// rise; one behind its last post has no place there.
func settle(cursors []*post.Cursor) []*post.Cursor {
	moved, others := cursors[0], cursors[1:]
	if moved.Left() == 0 {
		return others
	}
	at, _ := slices.BinarySearchFunc(others, moved, byNumber)
	copy(cursors, others[:at])
	cursors[at] = moved
	return cursors
}

// number is that of the conjunction at whose post a cursor stands.
func number(c *post.Cursor) int {
	q, _ := c.Post()
	return q.ID
}

func byNumber(a, b *post.Cursor) int { return cmp.Compare(number(a), number(b)) }

// attrs is how many attributes rising keys name.
func attrs(keys []api.Key) int {
	count := 0
	for i, k := range keys {
		if i == 0 || keys[i-1].Attr != k.Attr {
			count++
		}
	}
	return count
}
