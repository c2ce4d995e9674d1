package fault

import (
	"errors"
	"fmt"
	"math"
	"slices"
	"strings"
	"testing"

	"sparsetree/api"
)

// errPlain is an error without a code.
var errPlain = errors.New("plain")

// text is an error of a type that has a text only, and no code, though its text may look like that of one.
type text string

func (t text) Error() string { return string(t) }

// list is an error that cannot be compared.
type list []string

func (l list) Error() string { return strings.Join(l, ",") }

// liar is an error that contains no code and no Fault, but says so to errors.As and errors.Is.
type liar struct{}

func (liar) Error() string { return "liar" }

func (liar) Is(error) bool { return true }

func (liar) As(target any) bool {
	switch t := target.(type) {
	case *api.Errno:
		*t = api.ErrRoot
	case **Fault:
		*t = &Fault{Op: "lie", At: 1, Err: api.ErrRoot}
	}
	return true
}

// holder has an error as a part, but is not that error and does not wrap it.
type holder struct{ error }

// number is an error with the numbers of an Errno and another type.
type number int

func (n number) Error() string { return api.Errno(n).Error() }

// broken is an error that panics when it is asked for its text, if its pointer is nil.
type broken struct{ text string }

func (b *broken) Error() string { return b.text }

// codes are the values of Errno: the constants of api, and others around and far from them.
func codes() []api.Errno {
	l := []api.Errno{math.MinInt, -256, -1, 17, 18, 255, 256, 1 << 32, math.MaxInt}
	for e := api.OK; e <= api.ErrOther; e++ {
		l = append(l, e)
	}
	return l
}

// uncoded are errors that are no Faults and have no code.
func uncoded() []error {
	return []error{errPlain, text(""), text("error 2"), text("put 3: error 2"), list{"a", "b"}, list(nil), liar{}, &liar{},
		number(2), holder{api.ErrKey}, &broken{"broken"}, (*broken)(nil), (*Fault)(nil)}
}

// step is an operation in which an error occurs.
type step struct {
	op string
	at int
}

// steps are lists of operations, the outermost one first.
func steps() [][]step {
	return [][]step{
		{},
		{{"put", 3}},
		{{"", 0}},
		{{"", math.MinInt}, {"", math.MaxInt}},
		{{"apply", 7}, {"put", 0}},
		{{"a", 1}, {"a", 1}, {"a", 1}},
		{{"outer", -1}, {"", 5}, {"in ner: 9", 0}, {"\n\x00\xff\u00e9", 12}},
		many(1000),
	}
}

// many returns n different operations.
func many(n int) []step {
	l := make([]step, n)
	for i := range l {
		l[i] = step{fmt.Sprint("op", i%321), i - 500}
	}
	return l
}

// wrap wraps an error in operations, the first of which is the outermost.
func wrap(l []step, err error) error {
	for _, s := range slices.Backward(l) {
		err = New(s.op, s.at, err)
	}
	return err
}

// wantOps are the names of operations.
func wantOps(l []step) []string {
	var ops []string
	for _, s := range l {
		ops = append(ops, s.op)
	}
	return ops
}

// P3.1
func TestNewReturnsTheFault(t *testing.T) {
	for _, op := range []string{"", "put", "a b: c", "\xff\n", strings.Repeat("x", 1<<16)} {
		for _, at := range []int{math.MinInt, -1, 0, 1, 3, math.MaxInt} {
			for _, err := range []error{api.OK, api.ErrKey, api.Errno(-5), errPlain, (*Fault)(nil), &Fault{"in", 2, errPlain}} {
				f, ok := New(op, at, err).(*Fault)
				if !ok || f == nil {
					t.Fatalf("New(%q, %d, %#v) is no pointer to a Fault", op, at, err)
				}
				if f.Op != op || f.At != at || f.Err != err || f.Unwrap() != err || errors.Unwrap(f) != err {
					t.Errorf("New(%q, %d, %#v) = %#v", op, at, err, f)
				}
			}
		}
	}
}

// P3.1
func TestNewOfNoErrorIsNil(t *testing.T) {
	if err := New("put", 3, nil); err != nil {
		t.Errorf("New of nil = %#v", err)
	}
	if err := New("", 0, nil); err != nil {
		t.Errorf("New of nil = %#v", err)
	}
	if err := New("outer", 1, New("inner", 2, nil)); err != nil {
		t.Errorf("New of New of nil = %#v", err)
	}
}

// P3.1: two Faults with the same arguments are not one.
func TestNewReturnsANewFault(t *testing.T) {
	a, b := New("put", 3, api.ErrKey).(*Fault), New("put", 3, api.ErrKey).(*Fault)
	a.Op, a.At, a.Err = "get", 4, api.ErrRoot
	if b.Op != "put" || b.At != 3 || b.Err != api.ErrKey {
		t.Errorf("%#v", b)
	}
}

// P3.1
func TestErrorOfSomeFaults(t *testing.T) {
	for _, c := range []struct {
		f    *Fault
		want string
	}{
		{&Fault{"put", 3, api.ErrKey}, "put 3: error 2"},
		{&Fault{"put", 0, api.OK}, "put 0: error 0"},
		{&Fault{"", 0, api.ErrOther}, " 0: error 16"},
		{&Fault{"get", -1, errPlain}, "get -1: plain"},
		{&Fault{"a", math.MinInt64, text("")}, "a -9223372036854775808: "},
		{&Fault{"a", math.MaxInt64, text("t")}, "a 9223372036854775807: t"},
		{&Fault{"a b: ", 10, text("\xff\x00%d")}, "a b:  10: \xff\x00%d"},
		{&Fault{"o", 1, &Fault{"m", 2, &Fault{"i", 3, api.ErrRoot}}}, "o 1: m 2: i 3: error 13"},
		{&Fault{"", 1, &Fault{"", 2, errPlain}}, " 1:  2: plain"},
		{&Fault{"o", 1, (*Fault)(nil)}, "o 1: "},
		{&Fault{"o", 1, list{"x", "y"}}, "o 1: x,y"},
		{nil, ""},
	} {
		if got := c.f.Error(); got != c.want {
			t.Errorf("Error = %q, want %q", got, c.want)
		}
	}
}

// P3.1
func TestErrorIsMadeOfTheTextsInside(t *testing.T) {
	for _, l := range steps() {
		for _, inner := range []error{api.ErrKey, api.Errno(math.MinInt), errPlain, text("a\nb"), liar{}} {
			want := ""
			for _, s := range l {
				want += fmt.Sprintf("%s %d: ", s.op, s.at)
			}
			want += inner.Error()
			if got := wrap(l, inner).Error(); got != want {
				t.Errorf("%d operations: Error = %.80q, want %.80q", len(l), got, want)
			}
		}
	}
}

// P3.1: Unwrap takes away one Fault, and not more.
func TestUnwrapReturnsWhatIsWrapped(t *testing.T) {
	inner := &Fault{"in", 1, api.ErrKey}
	outer := &Fault{"out", 2, inner}
	if got := outer.Unwrap(); got != error(inner) {
		t.Errorf("%#v", got)
	}
	if got := inner.Unwrap(); got != error(api.ErrKey) {
		t.Errorf("%#v", got)
	}
	if got := (*Fault)(nil).Unwrap(); got != nil {
		t.Errorf("Unwrap of a nil Fault = %#v", got)
	}
}

// P3.2
func TestCodeOfNoError(t *testing.T) {
	if got := Code(nil); got != api.OK {
		t.Error(got)
	}
	if got := Code(New("put", 3, nil)); got != api.OK {
		t.Error(got)
	}
}

// P3.2: Errnos other than the constants of api are codes, too.
func TestCodeOfEachErrno(t *testing.T) {
	for _, l := range steps() {
		for _, e := range codes() {
			if got := Code(wrap(l, e)); got != e {
				t.Errorf("%d operations around %d: Code = %d", len(l), e, got)
			}
		}
	}
}

// P3.2
func TestCodeOfErrorsWithoutOne(t *testing.T) {
	for _, l := range steps() {
		for i, err := range uncoded() {
			if got := Code(wrap(l, err)); got != api.ErrOther {
				t.Errorf("%d operations around error %d: Code = %d", len(l), i, got)
			}
		}
	}
}

// P3.3
func TestIsFindsTheErrnoOnly(t *testing.T) {
	for _, l := range steps() {
		for _, e := range codes() {
			err := wrap(l, e)
			for _, x := range codes() {
				if got := Is(err, x); got != (x == e) {
					t.Errorf("%d operations around %d: Is(%d) = %v", len(l), e, x, got)
				}
			}
		}
	}
}

// P3.3: an error without a code contains no Errno, not even ErrOther; and no error does not contain OK.
func TestIsFindsNothingWithoutACode(t *testing.T) {
	for _, x := range codes() {
		if Is(nil, x) {
			t.Errorf("Is(nil, %d)", x)
		}
		for _, l := range steps() {
			for i, err := range uncoded() {
				if Is(wrap(l, err), x) {
					t.Errorf("%d operations around error %d: Is(%d)", len(l), i, x)
				}
			}
		}
	}
}

// P3.4
func TestOpsAreTheOperationsFromTheOutsideInwards(t *testing.T) {
	for _, l := range steps() {
		for i, err := range append(uncoded(), api.OK, api.ErrKey) {
			if got := Ops(wrap(l, err)); !slices.Equal(got, wantOps(l)) {
				t.Errorf("%d operations around error %d: Ops = %.80q", len(l), i, got)
			}
		}
	}
	if got := Ops(nil); len(got) != 0 {
		t.Errorf("Ops(nil) = %q", got)
	}
}

// P3.4 and rule 4 of the document: the results of two calls share no memory.
func TestOpsAreNewEachTime(t *testing.T) {
	err := New("out", 1, New("in", 2, api.ErrKey))
	first := Ops(err)
	first[0], first[1] = "x", "y"
	_ = append(first[:1], "z")
	if got := Ops(err); !slices.Equal(got, []string{"out", "in"}) {
		t.Errorf("%q", got)
	}
	if got := err.Error(); got != "out 1: in 2: error 2" {
		t.Errorf("%q", got)
	}
}

// P3.4
func TestFirstIsTheOutermostOperation(t *testing.T) {
	for _, l := range steps() {
		for i, err := range append(uncoded(), api.OK, api.ErrKey) {
			op, at, ok := First(wrap(l, err))
			want, found := step{}, len(l) > 0
			if found {
				want = l[0]
			}
			if op != want.op || at != want.at || ok != found {
				t.Errorf("%d operations around error %d: First = %q, %d, %v", len(l), i, op, at, ok)
			}
		}
	}
	if op, at, ok := First(nil); op != "" || at != 0 || ok {
		t.Errorf("First(nil) = %q, %d, %v", op, at, ok)
	}
}

// P3.4: a Fault that has zeros is one nevertheless.
func TestFirstOfAFaultWithZeros(t *testing.T) {
	if op, at, ok := First(New("", 0, New("in", 5, api.ErrKey))); op != "" || at != 0 || !ok {
		t.Errorf("First = %q, %d, %v", op, at, ok)
	}
}

// P3.5
func TestWrappingKeepsWhatIsContained(t *testing.T) {
	for _, l := range steps() {
		for i, inner := range append(uncoded(), api.OK, api.ErrKey, api.Errno(-1), api.Errno(99)) {
			err := wrap(l, inner)
			code, ops, text := Code(err), Ops(err), ""
			if broken, ok := inner.(*broken); !ok || broken != nil {
				text = err.Error()
			}
			outer := New("more", 8, err)
			if got := Code(outer); got != code {
				t.Errorf("%d operations around error %d: code %d became %d", len(l), i, code, got)
			}
			for _, x := range codes() {
				if Is(outer, x) != Is(err, x) {
					t.Errorf("%d operations around error %d: Is(%d) changed", len(l), i, x)
				}
			}
			if got := Ops(outer); !slices.Equal(got, append([]string{"more"}, ops...)) {
				t.Errorf("%d operations around error %d: Ops = %.80q", len(l), i, got)
			}
			if got := outer.Error(); text != "" && got != "more 8: "+text {
				t.Errorf("%d operations around error %d: Error = %.80q", len(l), i, got)
			}
			if !slices.Equal(Ops(err), ops) || Code(err) != code {
				t.Errorf("%d operations around error %d: wrapping changed it", len(l), i)
			}
		}
	}
}

// Rule 6 of the document: the fields of a Fault may have any values.
func TestFaultThatWrapsNothing(t *testing.T) {
	for _, f := range []*Fault{{}, {Op: "put", At: 3}, {Op: "put", At: 3, Err: (*Fault)(nil)}} {
		if got, want := f.Error(), fmt.Sprintf("%s %d: ", f.Op, f.At); got != want {
			t.Errorf("Error = %q", got)
		}
		if got := Code(f); got != api.ErrOther {
			t.Errorf("Code = %d", got)
		}
		if Is(f, api.OK) || Is(f, api.ErrOther) {
			t.Error("contains a code")
		}
		if got := Ops(f); !slices.Equal(got, []string{f.Op}) {
			t.Errorf("Ops = %q", got)
		}
		if op, at, ok := First(f); op != f.Op || at != f.At || !ok {
			t.Errorf("First = %q, %d, %v", op, at, ok)
		}
	}
	if got := (&Fault{}).Unwrap(); got != nil {
		t.Errorf("Unwrap = %#v", got)
	}
}

// P1 of the document: Error does not panic, even if a method of the error inside does.
func TestErrorDoesNotPanic(t *testing.T) {
	err := New("out", 1, New("in", 2, (*broken)(nil)))
	if got := err.Error(); got != "out 1: in 2: " {
		t.Errorf("%q", got)
	}
}

func TestExampleOfTheChapter(t *testing.T) {
	err := New("put", 3, api.ErrKey)
	if got := err.Error(); got != "put 3: error 2" {
		t.Errorf("%q", got)
	}
	if got := Code(err); got != api.ErrKey {
		t.Error(got)
	}
}
