package gf16

import (
	"testing"

	"cullet/api"
)

// P3.7

func TestNewAnswersNewTables(t *testing.T) {
	first, second := New(), New()
	if first == nil || second == nil {
		t.Fatal("New gives nil")
	}
	if first == second {
		t.Error("New gives one object twice")
	}
	*first = Tables{}
	if p := second.Exp(16); p != 0x2D {
		t.Errorf("Exp(16) = %#x of tables that share with others, want 0x2d", p)
	}
	if p := New().Exp(16); p != 0x2D {
		t.Errorf("Exp(16) = %#x of tables made later, want 0x2d", p)
	}
}

func TestExpExamples(t *testing.T) {
	tables := New()
	for _, c := range []struct {
		n    int
		want uint16
	}{
		{65535, 1}, {-1, 0x8016}, {0, 1}, {1, 2}, {15, 0x8000}, {16, 0x2D}, {65534, 0x8016}, {65536, 2},
		{-65534, 2}, {-65535, 1}, {-65536, 0x8016}, {21845, 0xACCA}, {43690, 0xACCB}, {61481, 3},
	} {
		if p := tables.Exp(c.n); p != c.want {
			t.Errorf("Exp(%d) = %#x, want %#x", c.n, p, c.want)
		}
	}
}

func TestExpAtEveryExponent(t *testing.T) {
	tables := New()
	powers := powersOf(2)
	for _, c := range append(nearExponents(), greatExponents()...) {
		if p := tables.Exp(c.n); p != powers[c.r] {
			t.Errorf("Exp(%d) = %#x, want %#x", c.n, p, powers[c.r])
		}
	}
}

func TestLogExamples(t *testing.T) {
	tables := New()
	for _, c := range []struct {
		a    uint16
		want int
	}{{1, 0}, {2, 1}, {3, 61481}, {0xACCA, 21845}, {0xACCB, 43690}, {0x8000, 15}, {0x2D, 16}, {0x8016, 65534}} {
		if n, e := tables.Log(c.a); n != c.want || e != api.OK {
			t.Errorf("Log(%#x) = %d, %d, want %d", c.a, n, e, c.want)
		}
	}
}

func TestLogOfEveryPower(t *testing.T) {
	tables := New()
	for r, a := range powersOf(2) {
		if n, e := tables.Log(a); n != r || e != api.OK {
			t.Errorf("Log(%#x) = %d, %d, want %d", a, n, e, r)
		}
	}
}

func TestLogOfZero(t *testing.T) {
	if n, e := New().Log(0); n != 0 || e != api.ErrZero {
		t.Errorf("Log(0) = %d, %d, want 0, ErrZero", n, e)
	}
}

func TestTablesMulLikeTheCall(t *testing.T) {
	tables := New()
	for _, a := range edges() {
		for _, b := range everyElement() {
			want := product(a, b)
			if p := tables.Mul(a, b); p != want || p != Mul(a, b) {
				t.Errorf("Mul(%#x, %#x) = %#x by tables, want %#x", a, b, p, want)
			}
			if p := tables.Mul(b, a); p != want {
				t.Errorf("Mul(%#x, %#x) = %#x by tables, want %#x", b, a, p, want)
			}
		}
	}
}

func TestTablesInvertLikeTheCall(t *testing.T) {
	tables := New()
	for _, a := range everyElement()[1:] {
		want, wantError := Inv(a)
		inv, e := tables.Inv(a)
		if inv != want || e != wantError || product(a, inv) != 1 {
			t.Errorf("Inv(%#x) = %#x, %d by tables, want %#x, %d", a, inv, e, want, wantError)
		}
	}
	if inv, e := tables.Inv(0); inv != 0 || e != api.ErrZero {
		t.Errorf("Inv(0) = %#x, %d by tables, want 0, ErrZero", inv, e)
	}
}

func TestTablesDivideLikeTheCall(t *testing.T) {
	tables := New()
	for _, edge := range edges() {
		for _, x := range everyElement() {
			checkTablesDiv(t, tables, edge, x)
			checkTablesDiv(t, tables, x, edge)
		}
	}
}

func checkTablesDiv(t *testing.T, tables *Tables, a, b uint16) {
	q, e := tables.Div(a, b)
	if b == 0 && (q != 0 || e != api.ErrZero) {
		t.Errorf("Div(%#x, 0) = %#x, %d by tables, want 0, ErrZero", a, q, e)
	}
	if b != 0 && (product(q, b) != a || e != api.OK) {
		t.Errorf("Div(%#x, %#x) = %#x, %d by tables, and the product is %#x", a, b, q, e, product(q, b))
	}
	if want, wantError := Div(a, b); q != want || e != wantError {
		t.Errorf("Div(%#x, %#x) = %#x, %d by tables, want %#x, %d", a, b, q, e, want, wantError)
	}
}

func TestNilTables(t *testing.T) {
	var none *Tables
	for _, a := range edges() {
		for _, b := range edges() {
			if p := none.Mul(a, b); p != 0 {
				t.Errorf("Mul(%#x, %#x) = %#x of a nil object", a, b, p)
			}
			if q, e := none.Div(a, b); q != 0 || e != api.ErrNil {
				t.Errorf("Div(%#x, %#x) = %#x, %d of a nil object, want 0, ErrNil", a, b, q, e)
			}
		}
	}
	for _, a := range everyElement() {
		if inv, e := none.Inv(a); inv != 0 || e != api.ErrNil {
			t.Errorf("Inv(%#x) = %#x, %d of a nil object, want 0, ErrNil", a, inv, e)
		}
		if n, e := none.Log(a); n != 0 || e != api.ErrNil {
			t.Errorf("Log(%#x) = %d, %d of a nil object, want 0, ErrNil", a, n, e)
		}
	}
	for _, c := range edgeExponents() {
		if p := none.Exp(c.n); p != 0 {
			t.Errorf("Exp(%d) = %#x of a nil object", c.n, p)
		}
	}
}

// P3.8

func TestTablesAnswerTheSameAgain(t *testing.T) {
	tables := New()
	before := *tables
	for _, a := range edges() {
		for _, b := range edges() {
			tables.Mul(a, b)
			tables.Div(a, b)
			tables.Inv(a)
			tables.Log(a)
			tables.Exp(int(a) - int(b))
		}
	}
	if *tables != before {
		t.Error("a method has changed the tables")
	}
}

// Rule 8: of tables that New has not made nothing is promised but that the calls end.
func TestZeroTablesEnd(t *testing.T) {
	tables := &Tables{}
	for _, a := range everyElement() {
		for _, b := range edges() {
			tables.Mul(a, b)
			tables.Div(a, b)
		}
		tables.Inv(a)
		tables.Log(a)
	}
	for _, c := range edgeExponents() {
		tables.Exp(c.n)
	}
}
