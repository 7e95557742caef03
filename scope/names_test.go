package scope

import (
	"fmt"
	"reflect"
	"strings"
	"testing"

	"holdfast/api"
)

const findText = "mod m { pub trait A { } fn h() { } pub fn Box() { } struct S { } pub enum E { X } }" +
	" mod k { use m::A; use m::E; use k2::Vec; enum m { X } pub fn own() { } }" +
	" mod k2 { pub struct Vec { } pub fn Copy() { } fn out() { } enum Option { None } }" +
	mainMod

// checkFind holds what Find answers against `sort number name pub behind` or `error number`.
func checkFind(t *testing.T, p api.Program, mod int, wants ...string) {
	t.Helper()
	for _, line := range wants {
		path, want, _ := strings.Cut(line, " = ")
		n, behind, e := Find(p, mod, path)
		got := fmt.Sprintf("%s%d %s %v %q", []string{"data", "type", "trait", "fn", "lib"}[n.Sort], n.N, n.Name, n.Pub, behind)
		if e != api.OK {
			got = fmt.Sprint("error ", e)
			if n != (api.Named{}) || behind != "" {
				t.Errorf("%d %q: beside an error %v %q", mod, path, n, behind)
			}
		}
		if got != want {
			t.Errorf("%d %q: %s, not %s", mod, path, got, want)
		}
	}
}

// P9: a module's own names are seen first, then what it uses, then std's.
func TestSeenNames(t *testing.T) {
	p := program(t, findText)
	checkFind(t, p, 0,
		`A = trait4 A true ""`, `h = fn0 h false ""`, `Box = fn1 Box true ""`, `S = data1 S false ""`, `E = data2 E true ""`,
		`Vec = type1 Vec true ""`, `out = lib40 out true ""`, `Copy = trait0 Copy true ""`, `Drop = trait3 Drop true ""`, `Option = data0 Option true ""`,
		`own = error 7`, `k = error 7`, `m = error 7`, `main = error 7`)
	checkFind(t, p, 1,
		`A = trait4 A false ""`, `E = data2 E false ""`, `Vec = data4 Vec false ""`, `m = data3 m false ""`, `own = fn2 own true ""`, `Box = type0 Box true ""`, `Rc = type2 Rc true ""`, `h = error 7`, `S = error 7`)
	checkFind(t, p, 2,
		`Vec = data4 Vec true ""`, `Copy = fn3 Copy true ""`, `out = fn4 out false ""`, `Option = data5 Option false ""`, `Box = type0 Box true ""`, `A = error 7`)
	checkFind(t, p, 3, `main = fn5 main false ""`, `A = error 7`, `Vec = type1 Vec true ""`)
}

// P9: two names: what is behind an item that is seen, otherwise an item of a module's own.
func TestPathsOfTwo(t *testing.T) {
	p := program(t, findText)
	checkFind(t, p, 0,
		`A::f = trait4 A true "f"`, `E::X = data2 E true "X"`, `E::Y = data2 E true "Y"`, `h::x = fn0 h false "x"`, `Option::Some = data0 Option true "Some"`, `Box::y = fn1 Box true "y"`, `out::x = lib40 out true "x"`,
		`m::h = fn0 h false ""`, `m::S = data1 S false ""`, `m::A = trait4 A true ""`,
		`k::own = fn2 own true ""`, `k::m = error 8`, `k::A = error 7`, `k::Vec = error 7`, `k::Box = error 7`, `k::Option = error 7`,
		`k2::Vec = data4 Vec true ""`, `k2::out = error 8`, `main::main = error 8`, `std::Box = error 7`, `q::x = error 7`, `q::Box = error 7`)
	checkFind(t, p, 1,
		`m::X = data3 m false "X"`, `m::h = data3 m false "h"`, `A::f = trait4 A false "f"`, `k::m = data3 m false ""`, `k::A = error 7`, `k2::Option = error 8`)
	checkFind(t, p, 3, `m::A = trait4 A true ""`, `m::h = error 8`, `m::S = error 8`, `main::main = fn5 main false "main"`)
}

// P9: three names: a module, its item, what is behind that; more than these say nothing.
func TestPathsOfThree(t *testing.T) {
	p := program(t, findText)
	checkFind(t, p, 0, `m::E::X = data2 E true "X"`, `m::S::x = data1 S false "x"`, `k::own::x = fn2 own true "x"`, `k::m::X = error 8`, `k::A::f = error 7`, `q::E::X = error 7`, `m::Q::X = error 7`,
		`E::X::y = error 7`, `A::f::g = error 7`, `Option::Some::x = error 7`, `m::E::X::y = error 7`, `E::X::y::z = error 7`, `q::a::b::c = error 7`)
	checkFind(t, p, 1, `m::E::X = error 7`, `m::h::x = error 7`, `k2::Vec::v = data4 Vec true "v"`)
	checkFind(t, p, 3, `m::E::X = data2 E true "X"`, `m::h::x = error 8`, `m::A::f = trait4 A true "f"`)
}

// P9: a text that is no path is taken the same way.
func TestPathsThatAreNone(t *testing.T) {
	p := program(t, findText)
	checkFind(t, p, 0, ` = error 7`, `:: = error 7`, `::: = error 7`, `:::: = error 7`, `::A = error 7`, `m:: = error 7`, `::m::A = error 7`, `m::::A = error 7`, `m:A = error 7`, `m:::A = error 7`, ` A = error 7`, `A  = error 7`,
		`m :: A = error 7`, `m. = error 7`, `A:: = trait4 A true ""`, `A:::f = trait4 A true ":f"`, `m::A:: = trait4 A true ""`, `A:: f = trait4 A true " f"`, `A<int> = error 7`, `Self = error 7`, `int = error 7`, `'a = error 7`)
}

// P9: every name of std's is seen where nothing else has it.
func TestStdNames(t *testing.T) {
	p := program(t, mainMod)
	want := []string{`Option = data0 Option true ""`}
	for n := range api.StdTypes {
		want = append(want, fmt.Sprintf("%s = type%d %[1]s true \"\"", api.StdType(n), n))
	}
	for n := range api.TrFirst {
		want = append(want, fmt.Sprintf("%s = trait%d %[1]s true \"\"", api.StdTrait(n), n))
	}
	for n := range api.Libs {
		want = append(want, fmt.Sprintf("%s = lib%d %[1]s true \"\"", api.StdFn(n), n))
	}
	checkFind(t, p, 0, want...)
}

// P1, P2: Find answers for modules that aren't there, and changes nothing.
func TestFindAnswers(t *testing.T) {
	p, again := program(t, findText), program(t, findText)
	for _, mod := range []int{-1, 4, 1 << 40, -1 << 40} {
		checkFind(t, p, mod, `Box = type0 Box true ""`, `A = error 7`, `m::A = trait4 A true ""`, `m::h = error 8`)
	}
	if !reflect.DeepEqual(p, again) {
		t.Error("changed")
	}
	checkFind(t, api.Program{}, 0, `Option::Some = data0 Option true "Some"`, `m::A = error 7`)
	checkFind(t, api.Program{Mods: []api.Module{{Name: "m", Own: 3}, {Name: "k", Own: -1}}}, 0, `m::A = error 7`, `k::A = error 7`)
}
