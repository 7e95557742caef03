package emit

import (
	"fmt"
	"math/rand"
	"reflect"
	"strings"
	"testing"

	"holdfast/api"
	"holdfast/holdfast"
)

// Structs that weigh 1, 2, 4 and so on, to fill types up with.
const fillers = "struct F1 { a: int } struct F2 { a: F1, b: F1 } struct F4 { a: F2, b: F2 } struct F8 { a: F4, b: F4 } struct F16 { a: F8, b: F8 } struct F32 { a: F16, b: F16 } struct F64 { a: F32, b: F32 } struct F128 { a: F64, b: F64 } "

// filler is a tuple that weighs so much.
func filler(weight int) string {
	var parts []string
	for n := range 8 {
		if weight>>n&1 == 1 {
			parts = append(parts, fmt.Sprint("F", 1<<n))
		}
	}
	return "(" + strings.Join(parts, ", ") + ")"
}

// P38: what a type of each kind weighs, by itself and within others: a local of it and of what is lacking to MaxWords passes, one of one word more does not.
func TestWeights(t *testing.T) {
	const datas = "struct S { a: int, b: (bool, int), c: E } enum E { A, B(int, (int, int)), C(int) } enum N { } struct O { } struct G<T, U> { t: T, u: Box<U> } enum H<T> { A(T, int), B(Cell<T>), C } enum Flat { A, B, C } copy struct K { a: int, b: int } "
	for _, c := range []struct {
		kind   string
		weight int
	}{
		{"int", 1}, {"bool", 1}, {"()", 0}, {"(int, bool)", 2}, {"((int, int), (), (bool, (int, int)))", 5},
		{"&F64", 1}, {"&mut F64", 1}, {"&(int, int)", 1}, {"&mut &int", 1},
		{"fn() -> F64", 1}, {"fn mut(F64, F64) -> int", 1}, {"fn once(F128) -> ()", 1}, {"fn(int) -> int", 1},
		{"Box<F64>", 1}, {"Vec<F64>", 3}, {"Vec<()>", 3}, {"Rc<F64>", 1}, {"Arc<F64>", 1}, {"Sender<F64>", 1}, {"Receiver<F64>", 1}, {"Handle<F64>", 1},
		{"Slice<F64>", 2}, {"SliceMut<F64>", 2}, {"Ref<F64>", 1}, {"RefMut<F64>", 1}, {"Lock<F64>", 1},
		{"Cell<F4>", 4}, {"Cell<()>", 0}, {"Cell<int>", 1}, {"RefCell<F4>", 5}, {"RefCell<()>", 1}, {"Mutex<F4>", 5}, {"Mutex<()>", 1}, {"Cell<Cell<F4>>", 4}, {"RefCell<Mutex<RefCell<int>>>", 4},
		{"Option<int>", 2}, {"Option<()>", 1}, {"Option<F16>", 17}, {"Option<Option<(int, int)>>", 4}, {"Option<Box<F64>>", 2},
		// The heaviest variant is not the last one.
		{"E", 4}, {"S", 7}, {"N", 1}, {"O", 0}, {"Flat", 1}, {"K", 2}, {"(E, E, O)", 8},
		{"G<int, F64>", 2}, {"G<F8, int>", 9}, {"G<(E, S), ()>", 12}, {"G<G<F2, int>, int>", 4},
		{"H<int>", 3}, {"H<F4>", 6}, {"H<()>", 2}, {"H<H<F4>>", 8}, {"H<Vec<F4>>", 5}, {"Vec<H<F64>>", 3}, {"RefCell<H<(E, int)>>", 8},
		{"F128", 128}, {"(F128, F64)", 192},
	} {
		for more := range 2 {
			kind := "(" + c.kind + ", " + filler(api.MaxWords+more-c.weight) + ")"
			text := "mod main { " + datas + fillers + "fn f() { let x: " + kind + "; } fn main(n: int) -> int { f(); n } }"
			code, fault := Emit(loaded(t, text))
			want := api.Fault{}
			if more == 1 {
				want = api.Fault{Kind: api.ErrMany, At: strings.Index(text, "fn f()")}
			}
			if fault != want || (len(code) == 0) != (more == 1) {
				t.Errorf("%s, filled up to %d: %v, %d instructions", c.kind, api.MaxWords+more, fault, len(code))
			}
		}
	}
}

// P38: of several functions the first one that has such a local, whichever of its locals it is; a temporary counts, what stands on the heap does not.
func TestTooWide(t *testing.T) {
	const items = fillers + "enum Big { A(F64, F64, F64, F8), B } fn wide() -> Big { Big::B } fn k<T>() -> T { panic } "
	for _, c := range []string{
		// Nobody needs a wide value.
		"fn f(x: &Big) { } fn main(n: int) -> int { let v = vec::<Big>(); let o: Option<Box<Big>> = Option::None; let c = chan::<Big>(); n }",
		"fn f(x: Big) { } fn main(n: int) -> int { n }",
		"fn f(x: Big) { } fn main(n: int) -> int { f(panic); n }",
		// A parameter, what a function gives, a variable, a temporary, what is captured.
		"fn f(x: Big) { } fn main(n: int) -> int { let g = fn[n](y: int) -> int { n }; let h = @fn[]() { f(k::<Big>()) }; n }",
		"fn main(n: int) -> int { let h = @fn[]() -> Big { panic }; n }",
		"@fn main(n: int) -> int { let x: Big; n }",
		"@fn main(n: int) -> int { boxed(wide()); n }",
		"fn f(b: Big) { } fn g(r: Option<Box<Big>>) -> int { match r { Option::Some(ref x) => 1, Option::None => 2 } } fn main(n: int) -> int { g(Option::None) }",
		"@fn g(r: Option<Box<Big>>) -> int { match r { Option::Some(x) => { unbox(x); 1 }, Option::None => 2 } } fn main(n: int) -> int { g(Option::None) }",
		// What two closures capture is wide only together: one of them has it in a local.
		"fn main(n: int) -> int { let a = k::<F128>(); let b = k::<F128>(); let f = fn[a, b]() -> int { a.a.a.a.a.a.a.a.a }; n }",
		"fn main(n: int) -> int { let a = k::<F128>(); let b = k::<F128>(); let f = @fn once[a, b]() -> int { 1 }; n }",
		"fn main(n: int) -> int { let a = k::<F128>(); let b = k::<F128>(); @spawn[a, b] -> int { 1 }; n }",
		// Functions have the order of their numbers: main is first, then as they come up.
		"fn f() { let x: Big; } fn g() { let x: Big; } @fn main(n: int) -> int { let x: Big; f(); n }",
		"@fn f() { let x: Big; } fn g() { let x: Big; } fn main(n: int) -> int { f(); g(); n }",
		"fn f() { let x: Big; } @fn g() { let x: Big; } fn main(n: int) -> int { g(); f(); n }",
		"fn f() { let x: int; } @fn g<T>() { let x: T; } fn main(n: int) -> int { g::<int>(); f(); g::<Big>(); n }",
		// A wide type of which a reference, or a place behind one, is used.
		"fn f(x: &(Big, int)) -> int { (*x).1 } fn g(o: Option<&(Big, int)>) -> int { match o { Option::Some(r) => f(r), Option::None => 3 } } fn main(n: int) -> int { g(Option::None) }",
	} {
		text := "mod main { " + strings.ReplaceAll(items, "fn wide() -> Big { Big::B }", strings.Repeat(" ", 3)) + c + " }"
		if strings.Contains(c, "wide()") {
			text = "mod main { " + items + c + " }"
		}
		at := strings.Index(text, "@")
		text = strings.Replace(text, "@", "", 1)
		code, fault := Emit(loaded(t, text))
		want := api.Fault{}
		if at >= 0 {
			want = api.Fault{Kind: api.ErrMany, At: at}
		}
		if fault != want || (len(code) == 0) != (at >= 0) {
			t.Errorf("%s: %v, not %v", c, fault, want)
		}
	}
}

// randomType is a type of a program with the data types of TestRandomWeights, of which the first number ones may stand in it.
func randomType(r *rand.Rand, datas, gens, depth int) api.Type {
	kinds := []int{api.TyInt, api.TyBool, api.TyTuple, api.TyData, api.TyRef, api.TyMut, api.TyFn, api.TyLib, api.TyLib, api.TyTuple, api.TyData}
	t := api.Type{Kind: kinds[r.Intn(len(kinds))]}
	if depth == 0 {
		t.Kind = api.TyInt
	}
	if gens > 0 && r.Intn(3) == 0 {
		return api.Type{Kind: api.TyParam, N: r.Intn(gens)}
	}
	args := 1
	switch t.Kind {
	case api.TyInt, api.TyBool:
		return t
	case api.TyTuple:
		args = r.Intn(4)
	case api.TyData:
		if datas == 0 {
			return api.Type{Kind: api.TyInt}
		}
		t.N = max(0, datas-1-r.Intn(4))
		args = t.N % 3
	case api.TyFn:
		t.N, args = r.Intn(3), 1+r.Intn(2)
	case api.TyLib:
		t.N = r.Intn(api.StdTypes)
	}
	for range args {
		t.Args = append(t.Args, randomType(r, datas, gens, depth-1))
	}
	return t
}

// P38: types of made data types, each of which holds those ahead of it, weigh what the chapter's words say.
func TestRandomWeights(t *testing.T) {
	r := rand.New(rand.NewSource(1))
	most := 0
	for range 300 {
		p := api.Program{}
		for n := range 9 {
			d := api.DataDef{Gens: n % 3, Drop: -1, Enum: r.Intn(2) == 0}
			cases := 1
			if d.Enum {
				cases = r.Intn(4)
			}
			for range cases {
				var c api.Case
				for range r.Intn(6) {
					c.Parts = append(c.Parts, api.Part{Type: randomType(r, n, d.Gens, 2)})
				}
				d.Cases = append(d.Cases, c)
			}
			p.Datas = append(p.Datas, d)
		}
		types := newTypes(p)
		for range 30 {
			kind := randomType(r, 9, 0, 3)
			want := weigh(p, kind)
			most = max(most, want)
			if got := types.weight(types.Of(kind)); got != min(want, api.MaxWords+1) {
				t.Fatalf("%+v of %+v: %d, not %d", kind, p.Datas, got, want)
			}
		}
	}
	if most <= api.MaxWords {
		t.Error(most)
	}
}

// P38: types of which there are more than could be gone through one by one: Emit answers all the same.
func TestManyTypes(t *testing.T) {
	chain := func(last, next string, levels int) string {
		text := last
		for n := range levels {
			text += strings.ReplaceAll(strings.ReplaceAll(next, "$+", fmt.Sprint("S", n+1)), "$", fmt.Sprint("S", n))
		}
		return text + " "
	}
	for _, c := range []struct {
		items string
		kind  string
		want  api.Errno
	}{
		{chain("struct S0<T> { a: int }", " struct $+<T> { a: $<(T, T)> }", 60), "S60<int>", api.OK},
		{chain("struct S0<T> { a: T }", " struct $+<T> { a: $<(T, T)> }", 60), "S60<int>", api.ErrMany},
		{chain("struct S0<T> { a: T }", " struct $+<T> { a: $<(T, T)> }", 60), "S60<()>", api.OK},
		{chain("struct S0<T> { a: () }", " struct $+<T> { a: $<(T, int)>, b: $<(int, T)> }", 40), "S40<int>", api.OK},
		{chain("struct S0<T> { a: T }", " struct $+<T> { a: $<(T, int)>, b: $<(int, T)> }", 40), "S40<int>", api.ErrMany},
		{chain("enum S0 { A }", " enum $+ { A($, $), B($) }", 60), "S60", api.ErrMany},
		{chain("struct S0 { }", " struct $+ { a: $, b: $, c: $ }", 60), "S60", api.OK},
		{chain("struct S0<T> { } impl<T> Drop for S0<T> { fn drop(self: &mut S0<T>) { } }", " struct $+<T> { a: $<(T, int)>, b: $<(int, T)> }", 40), "S20<int>", api.OK},
		{chain("struct S0<A, B, C> { a: () }", " struct $+<A, B, C> { a: $<(A, int), B, C>, b: $<A, (B, int), C>, c: $<A, B, (C, int)> }", 30), "S30<int, int, int>", api.OK},
	} {
		text := "mod main { " + c.items + "fn main(n: int) -> int { let x: " + c.kind + "; let y: &" + c.kind + "; n } }"
		if _, fault := Emit(loaded(t, text)); fault.Kind != c.want {
			t.Errorf("%s: %v", text, fault)
		}
	}
}

// P2, P3: what is handed in stays as it is, and the same comes out again, in memory of its own.
func TestOwnMemory(t *testing.T) {
	text := whole("let mut a = (d(1), boxed(w(2))); eat(replace(&mut a.0, d(3))); let f = fn[a]() -> int { 1 }; let h = spawn[] -> int { 2 }; f()")
	p, q := loaded(t, text), loaded(t, text)
	code, _ := Emit(p)
	again, _ := Emit(p)
	if !reflect.DeepEqual(p, q) {
		t.Error("the program is another one")
	}
	if !reflect.DeepEqual(code, again) {
		t.Error("the code is another one")
	}
	for n := range code {
		code[n] = api.Ins{}
	}
	if third, _ := Emit(p); !reflect.DeepEqual(third, again) || !reflect.DeepEqual(p, q) {
		t.Error("the code is kept")
	}
}

// P1: programs that no text has are answered too.
func TestProgramsOfNoText(t *testing.T) {
	itself := api.DataDef{Drop: -1, Cases: []api.Case{{Parts: []api.Part{{Type: api.Type{Kind: api.TyData}}}}}}
	growing := api.DataDef{Drop: -1, Gens: 1, Cases: []api.Case{{Parts: []api.Part{{Type: api.Type{Kind: api.TyData, Args: []api.Type{{Kind: api.TyTuple, Args: []api.Type{{Kind: api.TyParam}, {Kind: api.TyParam}}}}}}}}}}
	local := func(t api.Type) []api.FnDef {
		return []api.FnDef{{Vars: []api.Local{{Type: t}}, Code: []api.Instr{{Op: api.IRet}, {Op: api.IEnd}, {Op: api.IResume}}, Clean: 1}}
	}
	for _, p := range []api.Program{
		{},
		{Main: 3},
		{Fns: []api.FnDef{{}}},
		{Fns: local(api.Type{Kind: api.TyInt})},
		{Fns: local(api.Type{Kind: api.TyData, N: 9})},
		{Fns: local(api.Type{Kind: api.TyData}), Datas: []api.DataDef{itself}},
		{Fns: local(api.Type{Kind: api.TyData, Args: []api.Type{{Kind: api.TyInt}}}), Datas: []api.DataDef{growing}},
		{Fns: local(api.Type{Kind: api.TyLib})},
	} {
		if code, fault := Emit(p); fault.Kind != api.OK && len(code) > 0 {
			t.Errorf("%+v: %v, and code", p, fault)
		}
	}
	r := rand.New(rand.NewSource(2))
	text := whole("let mut a = (d(1), boxed(w(2))); eat(replace(&mut a.0, d(3))); let f = fn[a]() -> int { 1 }; let h = spawn[] -> int { 2 }; f() + *at(&fill(3), 1)")
	for range 300 {
		p, _ := holdfast.Load(text)
		f := &p.Fns[r.Intn(len(p.Fns))]
		in := &f.Code[r.Intn(len(f.Code))]
		switch r.Intn(6) {
		case 0:
			in.Op = r.Intn(25) - 1
		case 1:
			in.N = r.Intn(60) - 2
		case 2:
			in.To.Local = r.Intn(30) - 1
		case 3:
			in.Args = nil
		case 4:
			f.Vars = f.Vars[:r.Intn(len(f.Vars)+1)]
		case 5:
			in.To.Steps = append(in.To.Steps, api.Step{Kind: r.Intn(4), N: r.Intn(3), M: r.Intn(3)})
		}
		if code, fault := Emit(p); fault.Kind != api.OK && len(code) > 0 {
			t.Errorf("%v, and code", fault)
		}
	}
}
