package table

import (
	"math"
	"math/rand"
	"slices"
	"testing"
)

var wild = []int{math.MinInt, math.MinInt + 1, -1 << 62, -1 << 32, -513, -512, -257, -256, -255, -1, 0, 1, 2, 255, 256, 257, 258, 259, 511, 512, 513, 767, 768, 256_000_000, 256_000_001, 256_000_255, 256_000_256, 256_000_512, 1 << 31, 1<<32 + 256, 1 << 62, 1<<62 + 256, math.MaxInt - 255, math.MaxInt}

// filled is a Table of so many places, all taken, whose values tell their places.
func filled(t *testing.T, size int) *Table[int] {
	t.Helper()
	x := New[int](size)
	for i := range size {
		if name, ok := x.Add(1000 + i); !ok || name != 256+i {
			t.Fatalf("Add of place %d: %d, %v", i, name, ok)
		}
	}
	return x
}

// has fails unless x has just these names, with these values.
func has(t *testing.T, what string, x *Table[int], names, values []int) {
	t.Helper()
	if got := x.Names(); !slices.Equal(got, names) {
		t.Errorf("%s: Names are %v, want %v", what, got, names)
	}
	if n := x.Len(); n != len(names) {
		t.Errorf("%s: Len is %d, want %d", what, n, len(names))
	}
	for i, name := range names {
		if v, ok := x.Get(name); !ok || v != values[i] {
			t.Errorf("%s: Get(%d) = %d, %v, want %d", what, name, v, ok, values[i])
		}
	}
}

// full fails unless x has no free place, and an Add there changes nothing.
func full(t *testing.T, what string, x *Table[int]) {
	t.Helper()
	before := x.Names()
	if name, ok := x.Add(-1); ok || name != 0 {
		t.Errorf("%s: Add = %d, %v", what, name, ok)
	}
	if got := x.Names(); !slices.Equal(got, before) {
		t.Errorf("%s: behind an Add that was refused the Names are %v, want %v", what, got, before)
	}
}

// Promise 2.1: places 0 to size less 1, size below 0 as 0, above 256 as that; a first name is a place and 256.
func TestSizes(t *testing.T) {
	for _, c := range []struct{ size, places int }{
		{math.MinInt, 0}, {-256, 0}, {-1, 0}, {0, 0}, {1, 1}, {2, 2}, {32, 32}, {255, 255}, {256, 256}, {257, 256}, {512, 256}, {1 << 32, 256}, {math.MaxInt, 256},
	} {
		x := New[int](c.size)
		has(t, "new", x, nil, nil)
		for i := range c.places {
			if name, ok := x.Add(i); !ok || name != i+256 {
				t.Fatalf("New(%d): Add of place %d: %d, %v", c.size, i, name, ok)
			}
			if x.Len() != i+1 {
				t.Fatalf("New(%d): Len is %d behind %d Adds", c.size, x.Len(), i+1)
			}
		}
		full(t, "filled", x)
	}
}

// Promise 2.1: the chapter's example.
func TestExample(t *testing.T) {
	x := New[int](4)
	if name, ok := x.Add(1); name != 256 || !ok {
		t.Error("Add:", name, ok)
	}
	if !x.Drop(256) {
		t.Error("Drop(256): false")
	}
	if name, ok := x.Add(2); name != 512 || !ok {
		t.Error("Add:", name, ok)
	}
}

// Promise 2.1: Add takes the least free place, with its own generation.
func TestAddLeast(t *testing.T) {
	x := filled(t, 5)
	for _, name := range []int{259, 257, 256} {
		if !x.Drop(name) {
			t.Fatal("Drop:", name)
		}
	}
	has(t, "dropped", x, []int{258, 260}, []int{1002, 1004})
	for i, want := range []int{512, 513, 515} {
		if name, ok := x.Add(i); name != want || !ok {
			t.Errorf("Add: %d, %v, want %d", name, ok, want)
		}
	}
	full(t, "filled again", x)
	has(t, "filled again", x, []int{512, 513, 258, 515, 260}, []int{0, 1, 1002, 2, 1004})

	x.Drop(513)
	if name, ok := x.Add(7); name != 769 || !ok {
		t.Error("Add at a third generation:", name, ok)
	}
	has(t, "a third generation", x, []int{512, 769, 258, 515, 260}, []int{0, 7, 1002, 2, 1004})
}

// Promise 2.1: Get and Set of names that are there.
func TestGetSet(t *testing.T) {
	x := filled(t, 3)
	has(t, "filled", x, []int{256, 257, 258}, []int{1000, 1001, 1002})
	if !x.Set(257, 5) || !x.Set(258, 0) {
		t.Error("Set: false")
	}
	has(t, "set", x, []int{256, 257, 258}, []int{1000, 5, 0})
	x.Drop(257)
	x.Add(6)
	if !x.Set(513, 8) {
		t.Error("Set at a second generation: false")
	}
	has(t, "set at a second generation", x, []int{256, 513, 258}, []int{1000, 8, 0})
}

// Promise 2.1: of a name that is not there Get, Set and Drop are false, and nothing changes.
func TestNotThere(t *testing.T) {
	x := filled(t, 3)
	x.Drop(256) // a free place
	x.Drop(257)
	x.Add(7)
	x.Drop(512) // free again
	x.Add(8)
	x.Drop(258)
	there, values := []int{768}, []int{8}
	has(t, "made", x, there, values)
	for _, name := range append([]int{768 + 1<<32, -768, 769, 770, 1024}, wild...) {
		if name == 768 {
			continue
		}
		if v, ok := x.Get(name); ok || v != 0 {
			t.Errorf("Get(%d) = %d, %v", name, v, ok)
		}
		if x.Set(name, 9) {
			t.Errorf("Set(%d): true", name)
		}
		if x.Drop(name) {
			t.Errorf("Drop(%d): true", name)
		}
		has(t, "behind calls of a name that is not there", x, there, values)
	}
	for _, want := range []int{513, 514} {
		if name, ok := x.Add(1); name != want || !ok {
			t.Errorf("Add: %d, %v, want %d: a Drop that is false leaves the generation", name, ok, want)
		}
	}
}

// Promise 2.1: a place beyond size has no name, though its number is below 256.
func TestBeyondSize(t *testing.T) {
	for _, size := range []int{0, 1, 3, 255} {
		x := filled(t, size)
		for p := size; p < 256; p++ {
			for _, name := range []int{p, p + 256, p + 512} {
				if v, ok := x.Get(name); ok || v != 0 || x.Set(name, 1) || x.Drop(name) {
					t.Errorf("size %d has the name %d", size, name)
				}
			}
		}
		if x.Len() != size {
			t.Errorf("size %d: Len is %d", size, x.Len())
		}
	}
}

// Promise 2.1: a dropped name is gone, once.
func TestDrop(t *testing.T) {
	x := filled(t, 3)
	if !x.Drop(257) || x.Drop(257) || x.Set(257, 4) {
		t.Error("a name is dropped just once, and not set behind that")
	}
	if v, ok := x.Get(257); v != 0 || ok {
		t.Error("Get of a dropped name:", v, ok)
	}
	has(t, "dropped", x, []int{256, 258}, []int{1000, 1002})
	x.Add(9)
	if v, ok := x.Get(257); v != 0 || ok || x.Set(257, 4) || x.Drop(257) {
		t.Error("a dropped name stands for what came behind it:", v, ok)
	}
	has(t, "added", x, []int{256, 513, 258}, []int{1000, 9, 1002})
	for _, name := range x.Names() {
		if !x.Drop(name) {
			t.Error("Drop:", name)
		}
	}
	has(t, "emptied", x, nil, nil)
}

// Promises 2.1, 2.2: a place has 1,000,000 generations, and is never free again behind the last one.
func TestLastGeneration(t *testing.T) {
	const last = 1_000_000
	x := filled(t, 3)
	for g := 1; g < last; g++ {
		if !x.Drop(1 + 256*g) {
			t.Fatal("Drop at generation", g)
		}
		if name, ok := x.Add(g); !ok || name != 1+256*(g+1) {
			t.Fatal("Add behind generation", g, ":", name, ok)
		}
	}
	spent := 1 + 256*last
	has(t, "the last generation", x, []int{256, spent, 258}, []int{1000, last - 1, 1002})
	if !x.Set(spent, 3) || !x.Drop(spent) || x.Drop(spent) {
		t.Error("the last name is set and dropped as any other")
	}
	full(t, "behind the last generation", x)
	for _, name := range []int{1, 257, spent, spent + 256} {
		if v, ok := x.Get(name); v != 0 || ok || x.Set(name, 1) || x.Drop(name) {
			t.Errorf("a spent place has the name %d", name)
		}
	}
	has(t, "behind the last generation", x, []int{256, 258}, []int{1000, 1002})

	x.Drop(258)
	x.Drop(256)
	for _, want := range []int{512, 514} {
		if name, ok := x.Add(1); name != want || !ok {
			t.Errorf("Add beside a spent place: %d, %v, want %d", name, ok, want)
		}
	}
	full(t, "all others taken", x)
}

// Promise 2.1: Names go by place, not by number, and are new memory.
func TestNames(t *testing.T) {
	x := filled(t, 4)
	x.Drop(256)
	x.Drop(257)
	x.Add(1)
	x.Add(2)
	x.Drop(512)
	x.Add(3)
	x.Drop(258)
	want := []int{768, 513, 259}
	names := x.Names()
	if !slices.Equal(names, want) {
		t.Errorf("Names are %v, want %v", names, want)
	}
	names = names[:cap(names)]
	for i := range names {
		names[i] = -1
	}
	has(t, "behind a change of what was answered", x, want, []int{3, 2, 1003})

	names = x.Names()
	x.Drop(513)
	x.Add(4)
	if !slices.Equal(names, want) {
		t.Error("an answer changed behind an Add:", names)
	}
}

// Promise 2.1: a Table is of any type, and what is not there is that type's zero value.
func TestAnyType(t *testing.T) {
	type pair struct {
		n int
		s string
	}
	a := New[pair](1)
	name, _ := a.Add(pair{1, "a"})
	if v, ok := a.Get(name); v != (pair{1, "a"}) || !ok {
		t.Error(v, ok)
	}
	a.Drop(name)
	if v, ok := a.Get(name); v != (pair{}) || ok {
		t.Error(v, ok)
	}

	b := New[any](3)
	for i, v := range []any{nil, []int{1}, func() int { return 1 }} { // none can be held against another
		if name, ok := b.Add(v); name != 256+i || !ok || !b.Set(name, v) {
			t.Error(i, name, ok)
		}
	}
	if v, ok := b.Get(256); v != nil || !ok {
		t.Error("a nil that is there is there:", v, ok)
	}

	n := 1
	c := New[*int](1)
	name, _ = c.Add(&n)
	if v, ok := c.Get(name); v != &n || !ok {
		t.Error(v, ok)
	}
	if v, ok := c.Get(name + 256); v != nil || ok {
		t.Error(v, ok)
	}
	if !c.Drop(name) || c.places[0].v != nil {
		t.Error("what was dropped is kept, though nothing can tell it any more")
	}

	d := New[struct{}](2)
	d.Add(struct{}{})
	d.Add(struct{}{})
	if _, ok := d.Add(struct{}{}); ok || d.Len() != 2 {
		t.Error("a type of no size has places too:", d.Len())
	}
}

// Promise 2.1: each Table has its own names.
func TestTablesApart(t *testing.T) {
	x, y := filled(t, 2), filled(t, 2)
	x.Drop(256)
	x.Set(257, 1)
	x.Add(2)
	has(t, "one", x, []int{512, 257}, []int{2, 1})
	has(t, "the other", y, []int{256, 257}, []int{1000, 1001})
}

// Promises 2.1, 2.2: no name is told twice, held against a plain map of names.
func TestNoNameTwice(t *testing.T) {
	r := rand.New(rand.NewSource(1))
	for _, size := range []int{1, 2, 7, 32, 256} {
		x := New[int](size)
		model := map[int]int{}
		var told []int // by Adds, whether still there or not
		seen := map[int]bool{}
		next := make([]int, size) // the name that each place tells next, where it is free
		for p := range next {
			next[p] = p + 256
		}
		for step := range 20000 {
			name := r.Intn(4*256) - 10
			if len(told) > 0 && r.Intn(4) > 0 {
				name = told[max(0, len(told)-1-r.Intn(2*size+2))]
			}
			v, there := model[name]
			switch op := r.Intn(5); op {
			case 0, 1:
				want := 0
				for p := range next {
					if _, taken := model[next[p]]; !taken {
						want = next[p]
						break
					}
				}
				got, ok := x.Add(step)
				if got != want || ok != (want != 0) {
					t.Fatalf("size %d: Add = %d, %v, want %d", size, got, ok, want)
				}
				if ok && seen[got] {
					t.Fatalf("size %d: the name %d is told twice", size, got)
				}
				if ok {
					seen[got] = true
					told = append(told, got)
					model[got] = step
				}
			case 2:
				if got, ok := x.Get(name); got != v || ok != there {
					t.Fatalf("size %d: Get(%d) = %d, %v, want %d, %v", size, name, got, ok, v, there)
				}
			case 3:
				if ok := x.Set(name, -step); ok != there {
					t.Fatalf("size %d: Set(%d): %v", size, name, ok)
				}
				if there {
					model[name] = -step
				}
			case 4:
				if ok := x.Drop(name); ok != there {
					t.Fatalf("size %d: Drop(%d): %v", size, name, ok)
				}
				if there {
					delete(model, name)
					next[name%256] += 256
				}
			}
			if x.Len() != len(model) {
				t.Fatalf("size %d: Len is %d, want %d", size, x.Len(), len(model))
			}
		}
		names, values := []int{}, []int{}
		for _, name := range next {
			if v, ok := model[name]; ok {
				names, values = append(names, name), append(values, v)
			}
		}
		has(t, "behind all steps", x, names, values)
	}
}

// Promise 2.3: no call panics, whatever numbers it is given.
func TestNoPanic(t *testing.T) {
	for _, size := range wild {
		x := New[int](size)
		for _, name := range wild {
			x.Get(name)
			x.Set(name, name)
			x.Drop(name)
			x.Add(name)
			if len(x.Names()) != x.Len() {
				t.Errorf("New(%d): %d names, Len %d", size, len(x.Names()), x.Len())
			}
		}
	}
}
