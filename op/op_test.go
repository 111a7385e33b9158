package op

import "testing"

func TestMarksAreInOrderByCounterThenCopy(t *testing.T) {
	rising := []Mark{Beginning(), {1, 1}, {1, 2}, {1, 8}, {2, 1}, {2, 3}, {1 << 40, 1}, {1 << 40, 8}}
	for i, m := range rising {
		for j, n := range rising {
			if m.Above(n) != (i > j) {
				t.Errorf("Words: %v above %v: %v", m, n, m.Above(n))
			}
		}
	}
}

func TestKindsAreTheNumbersOfDatagrams(t *testing.T) {
	if Insert != 0 || Delete != 1 {
		t.Errorf("kinds: insert %d, delete %d", Insert, Delete)
	}
}

func TestMarkOfAnOperation(t *testing.T) {
	o := Operation{Name: Name{Origin: 3, Number: 7}, Counter: 9, Target: Mark{4, 2}}
	if m := o.Mark(); m != (Mark{9, 3}) {
		t.Errorf("Words: mark %v", m)
	}
}

func TestClockCountsEachCopyAlone(t *testing.T) {
	var c Clock
	c.Count(1)
	c.Count(8)
	c.Count(8)
	earlier := c
	c.Count(1)
	if c.Of(1) != 2 || c.Of(8) != 2 || c.Of(2) != 0 {
		t.Errorf("Words: clock %v", c)
	}
	if earlier != (Clock{1, 0, 0, 0, 0, 0, 0, 2}) {
		t.Errorf("Words: an earlier clock went on: %v", earlier)
	}
}

func TestCovers(t *testing.T) {
	c := Clock{3, 0, 1, 0, 0, 0, 0, 2}
	for other, want := range map[Clock]bool{
		{}:                       true,
		c:                        true,
		{2, 0, 1}:                true,
		{0, 0, 0, 0, 0, 0, 0, 2}: true,
		{4}:                      false,
		{3, 1}:                   false,
		{3, 0, 2}:                false,
		{3, 0, 1, 0, 0, 0, 1, 2}: false,
		{3, 0, 1, 0, 0, 0, 0, 3}: false,
	} {
		if got := c.Covers(other); got != want {
			t.Errorf("P11: %v covers %v: %v", c, other, got)
		}
	}
}
