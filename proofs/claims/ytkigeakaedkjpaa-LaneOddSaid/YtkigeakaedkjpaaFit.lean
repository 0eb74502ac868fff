/-
  A flit as plain data; two flits compared.
-/
import Derived.Test.YtkigeakaedkjpaaBits
import Derived.Laws.StructEq
import Derived.Outline
namespace Go.Proofs.Ytkigeakaedkjpaa
open Go.RowKit

structure Fl where
  k : Int
  s : Int
  d : Int
  q : Int
  l : Int
  m : Bool
  c : Bool
  x : ByteArray

abbrev flc (f : Fl) : Array Value := #[.int .i64 f.k, .int .i64 f.s, .int .i64 f.d, .int .i64 f.q, .int .i64 f.l, .bool f.m, .bool f.c, .string f.x]
abbrev flv (f : Fl) : Value := .agg (flc f)

def Fl.eqB (f g : Fl) : Bool := f.k == g.k && (f.s == g.s && (f.d == g.d && (f.q == g.q && (f.l == g.l && (f.m == g.m && (f.c == g.c && f.x.toList == g.x.toList))))))

theorem toList_inj {x y : ByteArray} (h : x.toList = y.toList) : x = y := by
  rw [ByteArray.toList_eq, ByteArray.toList_eq] at h
  obtain ⟨⟨x⟩⟩ := x
  obtain ⟨⟨y⟩⟩ := y
  simp at h
  rw [h]

theorem Fl.eqB_iff (f g : Fl) : f.eqB g = true ↔ f = g := by
  constructor
  · intro h
    unfold Fl.eqB at h
    simp only [Bool.and_eq_true, beq_iff_eq] at h
    obtain ⟨h1, h2, h3, h4, h5, h6, h7, h8⟩ := h
    have h8 := toList_inj h8
    obtain ⟨⟩ := f
    obtain ⟨⟩ := g
    simp_all
  · rintro rfl
    unfold Fl.eqB
    simp
theorem Fl.eqB_self (f : Fl) : f.eqB f = true := (Fl.eqB_iff f f).mpr rfl

theorem Try.flitFields : Try.prog.underlying 49 = some (.struct (Try.prog.fieldsOf 49)) := by kernel_rfl
theorem Try.flitHeld : Try.prog.stoodInHeld 49 = false := by kernel_rfl
theorem Try.flitGuard : Try.prog.eqGuardType Try.prog.depth 49 = false := by kernel_rfl

theorem run_equal_flit (f g : Fl) (w : World) : (Op.equalIn 10000 49 (flv f) (flv g)).run Try.prog w = .ok (f.eqB g) w := by
  have u3 := Try.underlying3
  have u4 := Try.underlying4
  have u9 := Try.underlying9
  have a3 := Try.isAgg3
  have z3 := Try.sizeOf3
  have a4 := Try.isAgg4
  have z4 := Try.sizeOf4
  have a9 := Try.isAgg9
  have z9 := Try.sizeOf9
  rw [show (10000 : Nat) = 9999 + 1 from rfl, flv, flv, run_equalIn_agg w 9999 49 _ _ Try.flitFields Try.flitHeld]
  simp only [Program.fieldsOf, Try.underlying49, flc]
  unfold Fl.eqB
  generalize hk : (f.k == g.k) = b1
  generalize hs : (f.s == g.s) = b2
  generalize hd : (f.d == g.d) = b3
  generalize hq : (f.q == g.q) = b4
  generalize hl : (f.l == g.l) = b5
  generalize hm : (f.m == g.m) = b6
  generalize hc : (f.c == g.c) = b7
  generalize hx : (f.x.toList == g.x.toList) = b8
  go_simp
  cases b1 <;> cases b2 <;> cases b3 <;> cases b4 <;> cases b5 <;> cases b6 <;> cases b7 <;> cases b8 <;> simp

theorem run_eq_flit (f g : Fl) (w : World) : (binOp .eql 49 (flv f) (flv g)).run Try.prog w = .ok (.bool (f.eqB g)) w := by
  rw [flv, flv, run_eql_struct, run_equal_flit]
  rfl
theorem run_ne_flit (f g : Fl) (w : World) : (binOp .neq 49 (flv f) (flv g)).run Try.prog w = .ok (.bool (!(f.eqB g))) w := by
  rw [flv, flv, run_neq_struct, run_equal_flit]
  rfl
end Go.Proofs.Ytkigeakaedkjpaa
