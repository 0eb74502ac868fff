/-
  Short names: arrays of values by their shapes; lists' laws.
-/
import Derived.Test.YtmmegmonmilkcaaGreatDoorProg
import Derived.Says
namespace Go.Proofs.YtmmegmonmilkcaaGreatDoor
theorem sqa {α : Type} (l : List α) (i : Nat) (a : α) : l.toArray.setIfInBounds i a = (l.set i a).toArray := List.setIfInBounds_toArray ..
theorem sqz {α : Type} (a b : α) (l : List α) : (a :: l).set 0 b = b :: l := rfl
theorem sqs {α : Type} (a b : α) (l : List α) (n : Nat) : (a :: l).set (n + 1) b = a :: l.set n b := rfl
theorem sqg {α : Type} (l : List α) (i : Nat) : l.toArray[i]? = l[i]? := List.getElem?_toArray ..
theorem sqh {α : Type} (a : α) (l : List α) : (a :: l)[0]? = some a := rfl
theorem sqt {α : Type} (a : α) (l : List α) (i : Nat) : (a :: l)[i + 1]? = l[i]? := by simp
abbrev zq0 (a0 : Int) (a1 : Int) (a2 : Int) (a3 : Int) (a4 : Int) (a5 : Int) (a6 : Int) (a7 : Bool) (a8 : Bool) (a9 : Int) (a10 : Option Addr) (a11 : Nat) (a12 : Nat) (a13 : Option Addr) (a14 : Nat) (a15 : Nat) (a16 : Option Addr) (a17 : Nat) (a18 : Nat) (a19 : Option Addr) (a20 : Nat) (a21 : Nat) : Array Value := #[.int .i64 a0, .int .i64 a1, .int .i64 a2, .int .i64 a3, .int .i64 a4, .int .i64 a5, .int .i64 a6, .bool a7, .bool a8, .int .i64 a9, .slice a10 a11 a12, .slice a13 a14 a15, .slice a16 a17 a18, .slice a19 a20 a21]
abbrev zq1 (a0 : Int) (a1 : Int) (a2 : Int) (a3 : Bool) (a4 : Bool) (a5 : Int) (a6 : Int) : Array Value := #[.int .i64 a0, .int .i64 a1, .int .u64 a2, .bool a3, .bool a4, .int .i64 a5, .int .i64 a6]
abbrev zq2 (a0 : Int) (a1 : Int) (a2 : Int) (a3 : Int) (a4 : Option Addr) (a5 : Nat) (a6 : Nat) (a7 : Bool) : Array Value := #[.int .i64 a0, .int .i64 a1, .int .i64 a2, .int .i64 a3, .slice a4 a5 a6, .bool a7]
abbrev zq3 (a0 : Int) (a1 : Int) (a2 : Int) (a3 : Int) (a4 : Int) (a5 : Bool) (a6 : Bool) (a7 : ByteArray) : Array Value := #[.int .i64 a0, .int .i64 a1, .int .i64 a2, .int .i64 a3, .int .i64 a4, .bool a5, .bool a6, .string a7]
abbrev zq4 (a0 : Int) (a1 : Int) (a2 : Int) (a3 : Bool) (a4 : Bool) : Array Value := #[.int .i64 a0, .int .i64 a1, .int .u64 a2, .bool a3, .bool a4]
abbrev zq5 (a0 : Int) (a1 : Int) (a2 : Int) (a3 : Int) (a4 : Int) (a5 : Int) (a6 : Int) (a7 : Bool) (a8 : Bool) : Array Value := #[.int .i64 a0, .int .i64 a1, .int .i64 a2, .int .i64 a3, .int .i64 a4, .int .i64 a5, .int .i64 a6, .bool a7, .bool a8]
abbrev zq6 (a0 : Option Addr) (a1 : Nat) (a2 : Nat) (a3 : Option Addr) (a4 : Nat) (a5 : Nat) (a6 : Option Addr) (a7 : Option Addr) : Array Value := #[.slice a0 a1 a2, .slice a3 a4 a5, .pointer a6, .pointer a7]
abbrev zq7 (a0 : Int) (a1 : Bool) (a2 : Option Addr) (a3 : Nat) (a4 : Nat) (a5 : ByteArray) : Array Value := #[.int .i64 a0, .bool a1, .slice a2 a3 a4, .string a5]
abbrev zq8 (a0 : Option Addr) (a1 : Int) (a2 : Int) (a3 : Int) (a4 : Bool) : Array Value := #[.pointer a0, .int .i64 a1, .int .i64 a2, .int .i64 a3, .bool a4]
abbrev zq9 (a0 : Int) (a1 : Int) (a2 : Int) (a3 : Int) (a4 : Int) (a5 : Bool) (a6 : Option Addr) (a7 : Nat) (a8 : Nat) (a9 : ByteArray) (a10 : Option Addr) (a11 : Nat) (a12 : Nat) : Array Value := #[.int .i64 a0, .int .i64 a1, .int .i64 a2, .int .i64 a3, .int .i64 a4, .bool a5, .slice a6 a7 a8, .string a9, .slice a10 a11 a12]
abbrev zq10 (a0 : Option Addr) (a1 : Int) (a2 : Int) (a3 : Int) : Array Value := #[.pointer a0, .int .i64 a1, .int .i64 a2, .int .u64 a3]
abbrev zq11 (a0 : Option Addr) (a1 : Int) (a2 : Int) (a3 : Int) : Array Value := #[.pointer a0, .int .i64 a1, .int .i64 a2, .int .i64 a3]
abbrev zq12 (a0 : Int) (a1 : Int) (a2 : Int) (a3 : Int) (a4 : Int) (a5 : Int) (a6 : Int) (a7 : Bool) (a8 : Bool) (a9 : Int) (a10 : Option Addr) (a11 : Nat) (a12 : Nat) (a13 : Option Addr) (a14 : Nat) (a15 : Nat) (a16 : Option Addr) (a17 : Option Addr) (a18 : Option Addr) (a19 : Nat) (a20 : Nat) (a21 : Option Addr) (a22 : Nat) (a23 : Nat) (a24 : Option Addr) (a25 : Option Addr) (a26 : Option Addr) (a27 : Nat) (a28 : Nat) (a29 : Option Addr) (a30 : Nat) (a31 : Nat) (a32 : Option Addr) (a33 : Option Addr) (a34 : Option Addr) (a35 : Nat) (a36 : Nat) (a37 : Option Addr) (a38 : Nat) (a39 : Nat) (a40 : Option Addr) (a41 : Option Addr) (a42 : Option Addr) (a43 : Nat) (a44 : Nat) (a45 : Option Addr) (a46 : Nat) (a47 : Nat) (a48 : Option Addr) (a49 : Option Addr) : Array Value := #[.int .i64 a0, .int .i64 a1, .int .i64 a2, .int .i64 a3, .int .i64 a4, .int .i64 a5, .int .i64 a6, .bool a7, .bool a8, .int .i64 a9, .slice a10 a11 a12, .slice a13 a14 a15, .pointer a16, .pointer a17, .slice a18 a19 a20, .slice a21 a22 a23, .pointer a24, .pointer a25, .slice a26 a27 a28, .slice a29 a30 a31, .pointer a32, .pointer a33, .slice a34 a35 a36, .slice a37 a38 a39, .pointer a40, .pointer a41, .slice a42 a43 a44, .slice a45 a46 a47, .pointer a48, .pointer a49]
end Go.Proofs.YtmmegmonmilkcaaGreatDoor
