package post_test

import (
	"math"
	"slices"
	"testing"

	"trommel/api"
	"trommel/post"
)

func in(id int) api.Post { return api.Post{ID: id} }

func out(id int) api.Post { return api.Post{ID: id, Out: true} }

// ahead tells whether a comes ahead of b, as the chapter tells it.
func ahead(a, b api.Post) bool {
	return a.ID < b.ID || a.ID == b.ID && a.Out && !b.Out
}

// bag is a list as the chapter tells it: the posts that are in, each once, in
// the order in which they came.
type bag struct {
	posts []api.Post
}

func (b *bag) has(p api.Post) bool {
	for _, q := range b.posts {
		if q.ID == p.ID && q.Out == p.Out {
			return true
		}
	}
	return false
}

func (b *bag) add(posts ...api.Post) int {
	fresh := 0
	for _, p := range posts {
		if !b.has(p) {
			b.posts = append(b.posts, p)
			fresh++
		}
	}
	return fresh
}

func (b *bag) drop(ids ...int) int {
	gone := 0
	for _, id := range ids {
		var left []api.Post
		for _, p := range b.posts {
			if p.ID != id {
				left = append(left, p)
			}
		}
		gone += len(b.posts) - len(left)
		b.posts = left
	}
	return gone
}

// all are the posts in their order: each is set ahead of the first that it is ahead of.
func (b *bag) all() []api.Post {
	var sorted []api.Post
	for _, p := range b.posts {
		i := 0
		for i < len(sorted) && ahead(sorted[i], p) {
			i++
		}
		sorted = slices.Insert(sorted, i, p)
	}
	return sorted
}

// walk is a cursor as the chapter tells it.
type walk struct {
	posts []api.Post
	at    int
}

func (w *walk) next() bool {
	if w.at < len(w.posts) {
		w.at++
	}
	return w.at < len(w.posts)
}

func (w *walk) skip(id int) bool {
	for w.at < len(w.posts) && w.posts[w.at].ID < id {
		w.at++
	}
	return w.at < len(w.posts)
}

func (w *walk) post() (api.Post, bool) {
	if w.at == len(w.posts) {
		return api.Post{}, false
	}
	return w.posts[w.at], true
}

// holdPlace holds all that a cursor tells of its place against its walk.
func holdPlace(t *testing.T, c *post.Cursor, w *walk) {
	t.Helper()
	p, there := c.Post()
	want, wantThere := w.post()
	if p != want || there != wantThere || c.At() != w.at || c.Left() != len(w.posts)-w.at {
		t.Fatalf("%v at %d: Post %v %v, At %d, Left %d", w.posts, w.at, p, there, c.At(), c.Left())
	}
	q, there := c.Place.Post()
	if q != want || there != wantThere || c.Place.At() != w.at || c.Place.Left() != len(w.posts)-w.at {
		t.Fatalf("%v at %d: the Place tells %v %v, At %d, Left %d", w.posts, w.at, q, there, c.Place.At(), c.Place.Left())
	}
}

// holdWalk goes over all that is left, from where a cursor stands.
func holdWalk(t *testing.T, c *post.Cursor, w *walk) {
	t.Helper()
	holdPlace(t, c, w)
	for range len(w.posts) - w.at + 2 {
		if got, want := c.Next(), w.next(); got != want {
			t.Fatalf("%v at %d: Next = %v", w.posts, w.at, got)
		}
		holdPlace(t, c, w)
	}
}

// hold holds all that a list tells against its bag, posts that it may not have among it.
func hold(t *testing.T, l *post.List, b *bag, others ...api.Post) {
	t.Helper()
	want := b.all()
	if got := l.All(); !slices.Equal(got, want) || l.Len() != len(want) {
		t.Fatalf("%v: All = %v, Len %d", want, got, l.Len())
	}
	for _, p := range slices.Concat(want, others) {
		q := api.Post{ID: p.ID, Out: !p.Out}
		if l.Has(p) != b.has(p) || l.Has(q) != b.has(q) {
			t.Fatalf("%v: Has(%v) = %v, Has(%v) = %v", want, p, l.Has(p), q, l.Has(q))
		}
	}
	holdWalk(t, l.Cursor(), &walk{posts: want})
	if got := post.Merge(l); !slices.Equal(got, want) {
		t.Fatalf("%v: Merge = %v", want, got)
	}
}

// ids are the ends of the whole numbers, what is beside them, and some around 0.
func ids() []int {
	return []int{math.MinInt, math.MinInt + 1, math.MinInt + 2, math.MinInt32 - 1, math.MinInt32, -256, -10, -9, -2, -1, 0, 1, 2, 9, 10, 255, 256, math.MaxInt32, math.MaxInt32 + 1, math.MaxUint32 + 1, math.MaxInt - 2, math.MaxInt - 1, math.MaxInt}
}

// bothOf are the two posts of each of some IDs, in their order.
func bothOf(ids ...int) []api.Post {
	var posts []api.Post
	for _, id := range ids {
		posts = append(posts, out(id), in(id))
	}
	return posts
}
