package gf8

import (
	"bytes"
	"testing"

	"cullet/api"
)

// P2.4

func TestNewAnswersNewTables(t *testing.T) {
	first, second := New(), New()
	if first == nil || second == nil {
		t.Fatal("New gives nil")
	}
	if first == second {
		t.Error("New gives one object twice")
	}
	*first = Tables{}
	if p := second.Exp(8); p != 29 {
		t.Errorf("Exp(8) = %d of tables that share with others, want 29", p)
	}
	if p := New().Exp(8); p != 29 {
		t.Errorf("Exp(8) = %d of tables made later, want 29", p)
	}
}

func TestExpExamples(t *testing.T) {
	tables := New()
	for _, c := range []struct {
		n    int
		want byte
	}{{0, 1}, {1, 2}, {7, 128}, {8, 29}, {-1, 142}, {254, 142}, {255, 1}, {256, 2}, {-255, 1}, {-254, 2}, {-256, 142}} {
		if p := tables.Exp(c.n); p != c.want {
			t.Errorf("Exp(%d) = %d, want %d", c.n, p, c.want)
		}
	}
}

func TestExpAtEveryExponent(t *testing.T) {
	tables := New()
	for _, c := range exponents() {
		if p, want := tables.Exp(c.n), power(2, c.r); p != want {
			t.Errorf("Exp(%d) = %d, want %d", c.n, p, want)
		}
	}
}

func TestLogExamples(t *testing.T) {
	tables := New()
	for _, c := range []struct {
		a    byte
		want int
	}{{1, 0}, {2, 1}, {128, 7}, {29, 8}, {142, 254}, {255, 175}} {
		if n, e := tables.Log(c.a); n != c.want || e != api.OK {
			t.Errorf("Log(%d) = %d, %d, want %d", c.a, n, e, c.want)
		}
	}
}

func TestLogOfEveryPower(t *testing.T) {
	tables := New()
	for r := range 255 {
		a := power(2, r)
		if n, e := tables.Log(a); n != r || e != api.OK {
			t.Errorf("Log(%d) = %d, %d, want %d", a, n, e, r)
		}
	}
}

func TestLogOfZero(t *testing.T) {
	if n, e := New().Log(0); n != 0 || e != api.ErrZero {
		t.Errorf("Log(0) = %d, %d, want 0, ErrZero", n, e)
	}
}

// P2.5

func TestTablesMulLikeTheCall(t *testing.T) {
	tables := New()
	for _, a := range everyElement() {
		for _, b := range everyElement() {
			if p := tables.Mul(a, b); p != product(a, b) || p != Mul(a, b) {
				t.Errorf("Mul(%d, %d) = %d by tables, want %d", a, b, p, product(a, b))
			}
		}
	}
}

func TestTablesInvertLikeTheCall(t *testing.T) {
	tables := New()
	for _, a := range everyElement() {
		want, wantError := Inv(a)
		if inv, e := tables.Inv(a); inv != want || e != wantError {
			t.Errorf("Inv(%d) = %d, %d by tables, want %d, %d", a, inv, e, want, wantError)
		}
	}
	if inv, e := tables.Inv(0); inv != 0 || e != api.ErrZero {
		t.Errorf("Inv(0) = %d, %d by tables, want 0, ErrZero", inv, e)
	}
}

func TestTablesDivideLikeTheCall(t *testing.T) {
	tables := New()
	for _, a := range everyElement() {
		for _, b := range everyElement() {
			want, wantError := Div(a, b)
			if q, e := tables.Div(a, b); q != want || e != wantError {
				t.Errorf("Div(%d, %d) = %d, %d by tables, want %d, %d", a, b, q, e, want, wantError)
			}
		}
		if q, e := tables.Div(a, 0); q != 0 || e != api.ErrZero {
			t.Errorf("Div(%d, 0) = %d, %d by tables, want 0, ErrZero", a, q, e)
		}
	}
}

func TestRowExample(t *testing.T) {
	row := New().Row(2)
	if len(row) != 256 {
		t.Fatalf("Row(2) has %d places", len(row))
	}
	if !bytes.Equal(row[:4], []byte{0, 2, 4, 6}) || row[128] != 29 || row[129] != 31 {
		t.Errorf("Row(2) = %d", row)
	}
}

func TestRowOfEveryElement(t *testing.T) {
	tables := New()
	for _, c := range everyElement() {
		if row := tables.Row(c); !bytes.Equal(row, productsOf(c)) {
			t.Errorf("Row(%d) = %d, want %d", c, row, productsOf(c))
		}
	}
}

func productsOf(c byte) []byte {
	list := make([]byte, 256)
	for x := range list {
		list[x] = product(c, byte(x))
	}
	return list
}

func TestRowIsNewMemory(t *testing.T) {
	tables := New()
	for _, c := range []byte{0, 1, 2, 128, 255} {
		kept := tables.Row(c)
		spoil(tables.Row(c))
		if !bytes.Equal(kept, productsOf(c)) {
			t.Errorf("Row(%d) shares with another answer", c)
		}
		for _, again := range []byte{0, 1, c} {
			if !bytes.Equal(tables.Row(again), productsOf(again)) {
				t.Errorf("Row(%d) behind a spoilt Row(%d)", again, c)
			}
		}
	}
	for _, a := range everyElement() {
		for _, b := range everyElement() {
			if p := tables.Mul(a, b); p != product(a, b) {
				t.Errorf("Mul(%d, %d) = %d behind spoilt rows, want %d", a, b, p, product(a, b))
			}
		}
	}
}

// spoil writes a list over, its spare room too, and grows it.
func spoil(row []byte) {
	whole := row[:cap(row)]
	for i := range whole {
		whole[i] = 0xA5
	}
	grown := append(row, 1, 2, 3)
	grown[0] = 0x5A
}

func TestNilTables(t *testing.T) {
	var none *Tables
	for _, a := range everyElement() {
		for _, b := range []byte{0, 1, 2, 128, 255} {
			if p := none.Mul(a, b); p != 0 {
				t.Errorf("Mul(%d, %d) = %d of a nil object", a, b, p)
			}
			if q, e := none.Div(a, b); q != 0 || e != api.ErrNil {
				t.Errorf("Div(%d, %d) = %d, %d of a nil object, want 0, ErrNil", a, b, q, e)
			}
		}
		if inv, e := none.Inv(a); inv != 0 || e != api.ErrNil {
			t.Errorf("Inv(%d) = %d, %d of a nil object, want 0, ErrNil", a, inv, e)
		}
		if n, e := none.Log(a); n != 0 || e != api.ErrNil {
			t.Errorf("Log(%d) = %d, %d of a nil object, want 0, ErrNil", a, n, e)
		}
		if row := none.Row(a); len(row) != 0 {
			t.Errorf("Row(%d) = %d of a nil object", a, row)
		}
	}
	for _, c := range exponents() {
		if p := none.Exp(c.n); p != 0 {
			t.Errorf("Exp(%d) = %d of a nil object", c.n, p)
		}
	}
}

// P2.6

func TestTablesAnswerTheSameAgain(t *testing.T) {
	tables := New()
	before := *tables
	for _, a := range []byte{0, 1, 2, 128, 255} {
		for _, b := range []byte{0, 1, 2, 128, 255} {
			tables.Mul(a, b)
			tables.Div(a, b)
			tables.Inv(a)
			tables.Log(a)
			tables.Exp(int(a) - int(b))
			tables.Row(a)
		}
	}
	if *tables != before {
		t.Error("a method has changed the tables")
	}
}

// Rule 8: of tables that New has not made nothing is promised but that the calls end.
func TestZeroTablesEnd(t *testing.T) {
	tables := &Tables{}
	for _, a := range everyElement() {
		for _, b := range everyElement() {
			tables.Mul(a, b)
			tables.Div(a, b)
		}
		tables.Inv(a)
		tables.Log(a)
		tables.Row(a)
	}
	for _, c := range exponents() {
		tables.Exp(c.n)
	}
}
