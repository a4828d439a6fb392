package conf_test

import (
	"fmt"
	"math/rand"
	"slices"
	"testing"

	"jetsam/api"
	"jetsam/conf"
	"jetsam/sample"
)

func TestP6_1_Of(t *testing.T) {
	if k := conf.Of(conf.Conf{}); k != (conf.Key{}) {
		t.Error("of nothing", k)
	}
	want := conf.Key{
		At:     [4]int{3, 1, 1},
		Vars:   [4][6]int{{5, -6}, {7}},
		Queues: [4][16]conf.Msg{{{Tag: 1, Val: 8}, {Tag: 0, Val: -9}}, {{Tag: 0, Val: 10}}, {{Tag: 3, Val: 11}}},
		Lens:   [4]int{2, 1, 1},
		States: [4]int{2, 0, 0},
	}
	if k := conf.Of(base()); k != want {
		t.Error(k)
	}
	c, k := great(), conf.Of(great())
	for i := range 4 {
		if k.At[i] != c.At[i] || k.States[i] != c.States[i] || k.Lens[i] != 16 ||
			!slices.Equal(k.Vars[i][:], c.Vars[i]) || !slices.Equal(k.Queues[i][:], c.Queues[i]) {
			t.Error(i, k)
		}
	}
}

// What is beyond the arrays' room is left out; all that has room is there.
func TestP6_1_OfMoreThanThereIsRoomFor(t *testing.T) {
	want := conf.Of(great())
	for what, put := range map[string]func(c *conf.Conf){
		"nodes":     func(c *conf.Conf) { c.At = append(c.At, 1, 2, 3) },
		"processes": func(c *conf.Conf) { c.Vars = append(c.Vars, []int{1}, nil) },
		"variables": func(c *conf.Conf) { c.Vars[3] = append(c.Vars[3], 1, 2) },
		"channels":  func(c *conf.Conf) { c.Queues = append(c.Queues, messages(2, 1)) },
		"states":    func(c *conf.Conf) { c.States = append(c.States, 1, 2) },
	} {
		c := great()
		put(&c)
		if k := conf.Of(c); k != want {
			t.Error(what, k)
		}
	}
	c := great()
	c.Queues[2] = append(c.Queues[2], messages(9, 1)...)
	k := conf.Of(c)
	k.Lens[2] = want.Lens[2]
	if k != want {
		t.Error("messages", k)
	}
	if k := conf.Of(conf.Conf{At: []int{7}, States: []int{0, 0, 0, 8}}); k != (conf.Key{At: [4]int{7}, States: [4]int{3: 8}}) {
		t.Error("lists of unlike lengths", k)
	}
}

type keyChange struct {
	what  string
	right bool
	put   func(k *conf.Key)
}

func keyChanges() []keyChange {
	return []keyChange{
		{"nothing", true, func(k *conf.Key) {}},
		{"the start", true, func(k *conf.Key) { *k = conf.Key{} }},
		{"another node", true, func(k *conf.Key) { k.At[0] = 2 }},
		{"node below", false, func(k *conf.Key) { k.At[0] = -1 }},
		{"node above", false, func(k *conf.Key) { k.At[0] = 4 }},
		{"node of no process", false, func(k *conf.Key) { k.At[3] = 1 }},
		{"another number", true, func(k *conf.Key) { k.Vars[0][1] = api.MinInt }},
		{"number above", false, func(k *conf.Key) { k.Vars[0][1] = api.MaxInt + 1 }},
		{"number below", false, func(k *conf.Key) { k.Vars[1][0] = api.MinInt - 1 }},
		{"number of no variable", false, func(k *conf.Key) { k.Vars[0][2] = 1 }},
		{"number of the last no variable", false, func(k *conf.Key) { k.Vars[1][5] = -1 }},
		{"number of a process without", false, func(k *conf.Key) { k.Vars[2][0] = 1 }},
		{"number of no process", false, func(k *conf.Key) { k.Vars[3][0] = 1 }},
		{"another message", true, func(k *conf.Key) { k.Queues[0][1] = conf.Msg{Tag: 1, Val: 5} }},
		{"message's number above", false, func(k *conf.Key) { k.Queues[0][1].Val = api.MaxInt + 1 }},
		{"message's tag above", false, func(k *conf.Key) { k.Queues[1][0].Tag = 1 }},
		{"message's tag below", false, func(k *conf.Key) { k.Queues[1][0].Tag = -1 }},
		{"number behind the messages", false, func(k *conf.Key) { k.Queues[0][2].Val = 1 }},
		{"tag behind the messages", false, func(k *conf.Key) { k.Queues[1][1].Tag = 1 }},
		{"tag in the last place", false, func(k *conf.Key) { k.Queues[1][15].Tag = -1 }},
		{"message of no channel", false, func(k *conf.Key) { k.Queues[3][0].Val = 1 }},
		{"a message more", true, func(k *conf.Key) { k.Lens[1] = 2 }},
		{"a message less, and its place", false, func(k *conf.Key) { k.Lens[0] = 1 }},
		{"a message less", true, func(k *conf.Key) { k.Lens[0], k.Queues[0][1] = 1, conf.Msg{} }},
		{"as many as may be", true, func(k *conf.Key) { k.Lens[1] = 3 }},
		{"more than may be", false, func(k *conf.Key) { k.Lens[1] = 4 }},
		{"as many as there is room", false, func(k *conf.Key) { k.Lens[1] = 16 }},
		{"more than there is room", false, func(k *conf.Key) { k.Lens[1] = 17 }},
		{"far more", false, func(k *conf.Key) { k.Lens[0] = 1 << 62 }},
		{"fewer than none", false, func(k *conf.Key) { k.Lens[2] = -1 }},
		{"far fewer", false, func(k *conf.Key) { k.Lens[2] = -1 << 63 }},
		{"messages of no channel", false, func(k *conf.Key) { k.Lens[3] = 1 }},
		{"fewer than none of no channel", false, func(k *conf.Key) { k.Lens[3] = -1 }},
		{"another state", true, func(k *conf.Key) { k.States[0] = 1 }},
		{"state above", false, func(k *conf.Key) { k.States[0] = 3 }},
		{"state below", false, func(k *conf.Key) { k.States[0] = -1 }},
		{"state without a rule", false, func(k *conf.Key) { k.States[1] = 1 }},
		{"state of no channel", false, func(k *conf.Key) { k.States[3] = 1 }},
	}
}

func TestP6_1_Back(t *testing.T) {
	s := system(t, baseText)
	for _, x := range keyChanges() {
		k := conf.Of(base())
		x.put(&k)
		c, err := conf.Back(s, k)
		switch {
		case !x.right && (err != api.ErrArg || !isNothing(c)):
			t.Error(x.what, c, err)
		case x.right && (err != api.OK || !conf.Right(s, c) || conf.Of(c) != k):
			t.Error(x.what, c, err)
		}
	}
	if c, err := conf.Back(s, conf.Of(base())); err != api.OK || !same(c, base()) {
		t.Error(c, err)
	}
	if c, err := conf.Back(system(t, greatText), conf.Of(great())); err != api.OK || !same(c, great()) {
		t.Error(c, err)
	}
	if c, err := conf.Back(system(t, bareText), conf.Of(great())); err != api.ErrArg || !isNothing(c) {
		t.Error(c, err)
	}
}

func TestP6_1_BackOfAnyIsIt(t *testing.T) {
	random := rand.New(rand.NewSource(61))
	for range 1500 {
		s, _ := sample.Sys(random.Intn)
		c := sample.Conf(s, random.Intn)
		if back, err := conf.Back(s, conf.Of(c)); err != api.OK || !same(back, c) {
			t.Fatal(s.Chans, s.Vars, c, "Back tells", back, err)
		}
	}
}

// numbers tells of all the places of a configuration that have a number.
func numbers(c conf.Conf) []*int {
	var places []*int
	add := func(list []int) {
		for i := range list {
			places = append(places, &list[i])
		}
	}
	add(c.At)
	add(c.States)
	for _, vars := range c.Vars {
		add(vars)
	}
	for _, queue := range c.Queues {
		for i := range queue {
			places = append(places, &queue[i].Tag, &queue[i].Val)
		}
	}
	return places
}

// altered tells the same with a change, which may be none at last.
func altered(c conf.Conf, pick func(n int) int) conf.Conf {
	c = conf.Copy(c)
	places := numbers(c)
	from, to := places[pick(len(places))], places[pick(len(places))]
	switch kind := pick(6); {
	case kind == 0:
		*from, *to = *to, *from
	case kind == 1:
		*to += 1 - 2*pick(2)
	case kind == 2:
		*to = sample.Number(pick)
	case len(c.Queues) == 0:
	case kind == 3:
		at := pick(len(c.Queues))
		c.Queues[at] = append(c.Queues[at], conf.Msg{})
	case kind == 4:
		at := pick(len(c.Queues))
		c.Queues[at] = c.Queues[at][:max(len(c.Queues[at])-1, 0)]
	default:
		slices.Reverse(c.Queues[pick(len(c.Queues))])
	}
	return c
}

func TestP6_2_OneKeyJustIfTheyAreTheSame(t *testing.T) {
	random := rand.New(rand.NewSource(62))
	told := map[bool]int{}
	for range 60 {
		s, _ := sample.Sys(random.Intn)
		first := sample.Conf(s, random.Intn)
		all := []conf.Conf{first, conf.Copy(first)}
		for range 60 {
			if c := altered(all[random.Intn(len(all))], random.Intn); conf.Right(s, c) {
				all = append(all, c)
			}
		}
		for i, a := range all {
			for _, b := range all[:i] {
				told[same(a, b)]++
				if (conf.Of(a) == conf.Of(b)) != same(a, b) {
					t.Fatal(a, "and", b)
				}
			}
		}
	}
	if told[true] < 1000 || told[false] < 1000 {
		t.Error("too few of one kind:", told)
	}
}

// Nil and empty lists are one; and a list's room is no matter.
func TestP6_2_ListsThatAreTheSame(t *testing.T) {
	c, room := base(), base()
	c.Vars[2], c.Queues[1] = nil, nil
	room.Vars[2], room.Queues[1] = make([]int, 0, 3), append([]conf.Msg{}, room.Queues[1]...)[:0]
	if conf.Of(c) != conf.Of(room) {
		t.Error(conf.Of(c), conf.Of(room))
	}
}

// Messages of noughts are told from none.
func TestP6_2_MessagesOfNoughts(t *testing.T) {
	seen := map[conf.Key]int{}
	for n := range 17 {
		c := conf.Conf{At: []int{0, 0}, Vars: make([][]int, 2), Queues: [][]conf.Msg{make([]conf.Msg, n)}, States: []int{0}}
		if !conf.Right(channels(api.Lossy, 16, 1), c) {
			t.Fatal(c)
		}
		seen[conf.Of(c)]++
	}
	if len(seen) != 17 {
		t.Error("one key of unlike ones:", len(seen))
	}
}

// Keys are keys of a map, which tells configurations apart.
func TestP6_2_KeysOfMaps(t *testing.T) {
	random := rand.New(rand.NewSource(63))
	s := system(t, baseText)
	words := map[conf.Key]string{}
	for range 5000 {
		c := sample.Conf(s, random.Intn)
		for _, n := range numbers(c) {
			*n = min(max(*n, -1), 1)
		}
		if !conf.Right(s, c) {
			continue
		}
		if known, ok := words[conf.Of(c)]; ok && known != fmt.Sprint(c) {
			t.Fatal(known, "and", c)
		}
		words[conf.Of(c)] = fmt.Sprint(c)
	}
	if len(words) < 100 {
		t.Error("few keys:", len(words))
	}
}
