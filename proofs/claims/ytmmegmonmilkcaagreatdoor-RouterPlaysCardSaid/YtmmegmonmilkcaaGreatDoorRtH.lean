/-
  How many lanes each one has, as cells; who has a lane, in numbers.
  The walk of RouterNil. (Written by gen_rnil.py.)
  The walk of RouterOwners.
-/
import Derived.Test.YtmmegmonmilkcaaGreatDoorRtObj
import Derived.Laws.MakeOwn
import Derived.Test.YtmmegmonmilkcaaGreatDoorRtLives
import Derived.Test.YtmmegmonmilkcaaGreatDoorRtWord
import Derived.Deep.CutBlock

namespace Go.Proofs.YtmmegmonmilkcaaGreatDoor
open Go.RowKit
theorem inRt_nat {S : RS} {a b : Nat} (ha : a < 5) (hb : b < S.n) : inRt S (a : Int) (b : Int) = true := inRt_iff.2 ⟨by omega, by omega, by omega, by omega⟩
end Go.Proofs.YtmmegmonmilkcaaGreatDoor

namespace Go.Proofs.YtmmegmonmilkcaaGreatDoor
open Go.RowKit
theorem isN_ok {c : G.Cf} {n : Int} (h : G.isN c n = true) : G.chk c = 0 := by
 by_cases e : G.chk c = 0
 ·exact e
 ·exfalso
  have h0 : G.nod c = 0 := by unfold G.nod; rw [if_neg e]
  unfold G.isN at h
  rw [h0] at h
  simp only [Bool.and_eq_true, decide_eq_true_eq] at h
  omega
theorem rcfg_cells {v : World} {A : Nat} {cw ch cl cd cr ci cb : Int} {we ca : Bool} (q : Bk v A (zq5 cw ch cl cd cr ci cb we ca) 23) : v.cell? ⟨A, 0, none⟩ = some (.int .i64 cw) ∧ v.cell? ⟨A, 1, none⟩ = some (.int .i64 ch) ∧ v.cell? ⟨A, 2, none⟩ = some (.int .i64 cl) ∧ v.cell? ⟨A, 3, none⟩ = some (.int .i64 cd) ∧ v.cell? ⟨A, 4, none⟩ = some (.int .i64 cr) ∧ v.cell? ⟨A, 5, none⟩ = some (.int .i64 ci) ∧ v.cell? ⟨A, 6, none⟩ = some (.int .i64 cb) ∧ v.cell? ⟨A, 7, none⟩ = some (.bool we) ∧ v.cell? ⟨A, 8, none⟩ = some (.bool ca) :=
 ⟨(q.cell 0).trans rfl, (q.cell 1).trans rfl, (q.cell 2).trans rfl, (q.cell 3).trans rfl, (q.cell 4).trans rfl, (q.cell 5).trans rfl, (q.cell 6).trans rfl, (q.cell 7).trans rfl, (q.cell 8).trans rfl⟩
end Go.Proofs.YtmmegmonmilkcaaGreatDoor

namespace Go.Proofs.YtmmegmonmilkcaaGreatDoor
open Go.RowKit
theorem op_cells {v : World} {b : Nat} {o : Opn} (h : Bk v b (oc o) 42) : v.cell? ⟨b, 0, none⟩ = some (.int .i64 o.kd) ∧ v.cell? ⟨b, 1, none⟩ = some (.int .i64 o.p) ∧ v.cell? ⟨b, 2, none⟩ = some (.int .i64 o.l) ∧ v.cell? ⟨b, 3, none⟩ = some (.int .i64 o.n) ∧ v.cell? ⟨b, 4, none⟩ = some (.int .i64 o.s) ∧ v.cell? ⟨b, 5, none⟩ = some (.bool o.cc) ∧ v.cell? ⟨b, 6, none⟩ = some (.slice o.ha o.hs.length o.hcap) ∧ v.cell? ⟨b, 7, none⟩ = some (.string o.x) ∧ v.cell? ⟨b, 8, none⟩ = some (.slice o.ma o.my.length o.mcap) :=
 ⟨(h.cell 0).trans rfl, (h.cell 1).trans rfl, (h.cell 2).trans rfl, (h.cell 3).trans rfl, (h.cell 4).trans rfl, (h.cell 5).trans rfl, (h.cell 6).trans rfl, (h.cell 7).trans rfl, (h.cell 8).trans rfl⟩
end Go.Proofs.YtmmegmonmilkcaaGreatDoor
