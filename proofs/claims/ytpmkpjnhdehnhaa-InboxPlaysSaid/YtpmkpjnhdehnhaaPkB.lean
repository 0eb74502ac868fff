/-
  A packet by value. No function in it.
-/
import Derived.Test.YtpmkpjnhdehnhaaProg
import Derived.WalkKit
namespace Go.Proofs.Ytpmkpjnhdehnhaa
open Go.RowKit

/-- A packet by value: by whom, to whom, its number, its bytes. -/
structure Pk where
  s : Int
  d : Int
  q : Int
  x : ByteArray
abbrev zpk : Pk := ⟨0, 0, 0, ⟨#[]⟩⟩
abbrev pkc (p : Pk) : Array Value := #[.int .i64 p.s, .int .i64 p.d, .int .i64 p.q, .string p.x]
abbrev pkv (p : Pk) : Value := .agg (pkc p)
/-- Its cells. -/
abbrev pk4 (p : Pk) : List Value := [.int .i64 p.s, .int .i64 p.d, .int .i64 p.q, .string p.x]
end Go.Proofs.Ytpmkpjnhdehnhaa
