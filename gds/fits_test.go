package gds

import "testing"

// What is thrown by a rule is told apart from a fault of the program itself, which goes on.
func TestFitsHidesNoFault(t *testing.T) {
	if !fits(func() {}) || fits(func() { panic(misfit{}) }) {
		t.Fatal("a misfit is one that is thrown")
	}
	defer func() {
		if thrown := recover(); thrown != "fault" {
			t.Fatal(thrown)
		}
	}()
	fits(func() { panic("fault") })
	t.Fatal("a fault was hidden")
}
