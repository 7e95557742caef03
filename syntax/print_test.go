package syntax

import (
	"strings"
	"testing"

	"holdfast/api"
)

// checkPrints holds Print's texts of trees against what they are told to be, and whether they are read again. What stands around them is written as Print writes it.
func checkPrints(t *testing.T, ahead, behind string, cases [][2]string) {
	t.Helper()
	for _, c := range cases {
		n, fault := Parse(ahead + c[0] + behind)
		if fault != (api.Fault{}) {
			t.Errorf("%q: %v", c[0], fault)
			continue
		}
		want := ahead + c[1] + behind
		if got := Print(n); got != want {
			t.Errorf("%q:\n%q, not\n%q", c[0], got, want)
		}
		again, fault := Parse(want)
		if fault != (api.Fault{}) || !sameTree(withoutPlaces(again), withoutPlaces(n)) {
			t.Errorf("%q is not read again as it was: %v", want, fault)
		}
	}
}

// P7: modules and items.
func TestPrintItems(t *testing.T) {
	checkPrints(t, "", "", [][2]string{
		{"", ""},
		{" \t# nothing\n ", ""},
		{"mod m{}mod n{}", "mod m { } mod n { }"},
		{"\n mod m{use a::b;use c::d;} # end", "mod m { use a :: b ; use c :: d ; }"},
	})
	checkPrints(t, "mod m { ", " }", [][2]string{
		{"struct S{}", "struct S { }"},
		{"pub struct S{x:int,}", "pub struct S { x : int }"},
		{"copy struct S<'a,'b,T>{pub x:int,y:(bool)}", "copy struct S < 'a , 'b , T > { pub x : int , y : bool }"},
		{"pub copy enum E<T>{A,B(int,T),}", "pub copy enum E < T > { A , B ( int , T ) }"},
		{"enum E{}", "enum E { }"},
		{"pub trait T{fn f();fn g(self:&Self,x:int)->();fn h()->int;}", "pub trait T { fn f ( ) ; fn g ( self : & Self , x : int ) ; fn h ( ) -> int ; }"},
		{"trait T{}", "trait T { }"},
		{"impl T for S{}", "impl T for S { }"},
		{"impl<'a:'b+'c,T:'a+m::U,V>m::T for S<'a,T>{fn f(){}fn g()->int{1}}", "impl < 'a : 'b + 'c , T : 'a + m :: U , V > m :: T for S < 'a , T > { fn f ( ) { } fn g ( ) -> int { 1 } }"},
		{"pub fn f<T:Copy>(mut a:int,b:T){}", "pub fn f < T : Copy > ( mut a : int , b : T ) { }"},
	})
}

// P7: types. The empty tuple is left out as a result, but not of a closure's type.
func TestPrintTypes(t *testing.T) {
	checkPrints(t, "mod m { fn f ( x : ", " ) { } }", [][2]string{
		{"int", "int"},
		{"(bool)", "bool"},
		{"()", "( )"},
		{"(int,(),(bool,T))", "( int , ( ) , ( bool , T ) )"},
		{"&int", "& int"},
		{"&'a mut T", "& 'a mut T"},
		{"&&'a mut&T", "& & 'a mut & T"},
		{"fn()->()", "fn ( ) -> ( )"},
		{"fn 'a mut(int,T)->fn once()->bool", "fn 'a mut ( int , T ) -> fn once ( ) -> bool"},
		{"a::b<'a,'static,int,S<T>>", "a :: b < 'a , 'static , int , S < T > >"},
	})
}

// P7: an operand is written in `( )`, unless it is one of a few things.
func TestPrintOperands(t *testing.T) {
	checkPrints(t, "mod m { fn f ( ) { let x = ", " ; } }", [][2]string{
		{"1+2", "1 + 2"},
		{"(1+2)", "1 + 2"},
		{"1+2+3", "( 1 + 2 ) + 3"},
		{"1+2*3", "1 + ( 2 * 3 )"},
		{"a=b=c", "a = ( b = c )"},
		{"*a=-1", "( * a ) = ( - 1 )"},
		{"a||b&&!c", "a || ( b && ( ! c ) )"},
		{"a==b&&c!=d", "( a == b ) && ( c != d )"},
		{"--1", "- ( - 1 )"},
		{"&&mut x", "& ( & mut x )"},
		{"& &x", "& ( & x )"},
		{"**x.0", "* ( * x . 0 )"},
		{"(*x).y", "( * x ) . y"},
		{"(-f)(1,-2)", "( - f ) ( 1 , - 2 )"},
		{"{f}()", "( { f } ) ( )"},
		{"fn[](){}()", "( fn [ ] ( ) { } ) ( )"},
		{"true+false", "true + false"},
		{"(1,2)+()", "( 1 , 2 ) + ( )"},
		{"a::b::c+f::<int,T>", "a :: b :: c + f :: < int , T >"},
		{"f(1)+x.y.0", "f ( 1 ) + x . y . 0"},
		{"make S{}.x+make m::S::<int>{y:-1,}", "make S { } . x + make m :: S :: < int > { y : - 1 }"},
		{"break+next", "( break ) + ( next )"},
		{"panic()", "( panic ) ( )"},
		{"1+(return)", "1 + ( return )"},
		{"1+return 2+3", "1 + ( return 2 + 3 )"},
		{"(if a{})+loop{}", "( if a { } ) + ( loop { } )"},
		{"if a==b{}else if{c}{}else{}", "if ( a == b ) { } else if ( { c } ) { } else { }"},
		{"if a{}", "if a { }"},
		{"while f(){}", "while f ( ) { }"},
		{"while!a{}", "while ( ! a ) { }"},
		{"match make S{}{}", "match make S { } { }"},
		{"match&x{}", "match ( & x ) { }"},
		{"f(a+b,&c,(return))", "f ( a + b , & c , return )"},
		{"(a+b,c=d)", "( a + b , c = d )"},
		{"return a=b", "return a = b"},
		{"spawn[]{}+spawn[]{}", "( spawn [ ] { } ) + ( spawn [ ] { } )"},
	})
}

// P7: blocks, statements and what else expressions are made of.
func TestPrintThings(t *testing.T) {
	checkPrints(t, "mod m { fn f ( ) { ", " } }", [][2]string{
		{"1", "1"},
		{"1;", "1 ;"},
		{"a;b", "a ; b"},
		{"let x;let mut y:int;let z=1;let mut w:T=x=y;", "let x ; let mut y : int ; let z = 1 ; let mut w : T = x = y ;"},
		{"if a{}", "if a { }"},
		{"if a{};", "if a { } ;"},
		{"if a{1}else{2}{}loop{}x", "if a { 1 } else { 2 } ; { } ; loop { } ; x"},
		{"{{1};}", "{ { 1 } ; }"},
		{"while a{next;}break", "while a { next ; } ; break"},
		{"match x{}", "match x { }"},
		{"match x{0=>return,-1=>return 1,-0=>{},true=>false,}", "match x { 0 => return , - 1 => return 1 , 0 => { } , true => false }"},
		{"match x{_=>a,b=>c,mut d=>e,ref f=>g,ref mut h=>i}", "match x { _ => a , b => c , mut d => e , ref f => g , ref mut h => i }"},
		{"match x{(a)=>1,()=>2,(a,(false,_))=>3}", "match x { a => 1 , ( ) => 2 , ( a , ( false , _ ) ) => 3 }"},
		{"match x{A::B=>1,m::A::B(1,C::D(_))=>2}", "match x { A :: B => 1 , m :: A :: B ( 1 , C :: D ( _ ) ) => 2 }"},
		{"match x{-9223372036854775807=>0009223372036854775807}", "match x { - 9223372036854775807 => 9223372036854775807 }"},
		{"make S{}", "make S { }"},
		{"make m::S::<&int,T>{x:1,y:a=b,}", "make m :: S :: < & int , T > { x : 1 , y : a = b }"},
		{"fn[](){}", "fn [ ] ( ) { }"},
		{"fn mut[a,&b,&mut c](x:int,mut y:T)->int{x}", "fn mut [ a , & b , & mut c ] ( x : int , mut y : T ) -> int { x }"},
		{"fn once[]()->(){}", "fn once [ ] ( ) { }"},
		{"spawn[a]->(int,int){panic}", "spawn [ a ] -> ( int , int ) { panic }"},
		{"spawn[]->(){}", "spawn [ ] { }"},
		{"return", "return"},
		{"return;", "return ;"},
	})
}

// P8: the longest text that Print may have to write is read again, or is longer than a text may be.
func TestPrintLong(t *testing.T) {
	text := "mod m{fn f(){" + strings.Repeat("1;", 2900) + "}}"
	n, fault := Parse(text)
	if fault != (api.Fault{}) {
		t.Fatal(fault)
	}
	want := "mod m { fn f ( ) { " + strings.Repeat("1 ; ", 2900) + "} }"
	if got := Print(n); got != want {
		t.Error(len(got), len(want))
	}
	if _, fault := Parse(want); fault != (api.Fault{Kind: api.ErrLong}) {
		t.Error(fault)
	}
}

// P1: Print answers also of trees that no text has.
func TestPrintAnyTree(t *testing.T) {
	for kind := -1; kind <= api.EInvoke+1; kind++ {
		Print(api.Node{Kind: kind})
		Print(api.Node{Kind: kind, N: 5, M: 5, Kids: []api.Node{{Kind: kind}}})
		Print(api.Node{Kind: kind, N: -5, M: -5, Kids: []api.Node{{}, {}, {}}})
	}
}

// P2: Print leaves its tree as it is.
func TestPrintKeepsTree(t *testing.T) {
	for seed := range 50 {
		_, want := makeText(seed)
		_, given := makeText(seed)
		Print(given)
		if !sameTree(given, want) {
			t.Errorf("seed %d: the tree has changed", seed)
		}
	}
}
