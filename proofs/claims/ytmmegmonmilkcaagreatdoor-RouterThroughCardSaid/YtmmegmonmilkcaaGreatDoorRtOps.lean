/-
  A law's router since a world; which lanes may be sent on, as functions; some config.
-/
import Derived.Test.YtmmegmonmilkcaaGreatDoorRtObj
import Derived.Test.YtmmegmonmilkcaaGreatDoorGoodR
import Derived.Shelf.Abstract
namespace Go.Proofs.YtmmegmonmilkcaaGreatDoor
open Go.RowKit

/-- A law's router, made since w: as lists, its blocks new, nothing of w turned. -/
structure RSt (w wr : World) (b : Nat) (c : G.Cf) (S : RS) (F : Nat → Prop) : Prop where
  rt : Rt wr b c S F
  news : ∀ g, F g → w.heap.size ≤ g
  below : Below w.heap.size w wr
section
variable {w wr w' : World} {b k j : Nat} {c : G.Cf} {S S' : RS} {F F' : Nat → Prop} {x : Value} {r : Option Nat}
theorem RSt.size (h : RSt w wr b c S F) : w.heap.size ≤ wr.heap.size := h.below.size
theorem RSt.step (h : RSt w wr b c S F) (l : Rt w' b c S' F') (g : Gr F wr w' F') : RSt w w' b c S' F' := ⟨l, g.up h.news h.size, g.under h.below h.news h.size⟩
theorem RSt.next (h : RSt w wr b c S F) (k : Below wr.heap.size wr w') : RSt w w' b c S F := ⟨h.rt.next k, h.news, h.below.trans (k.mono h.size)⟩
theorem RSt.alloc (h : RSt w wr b c S F) (o : Obj) : RSt w (wr.alloc o) b c S F := h.next ((Below.refl _ _).alloc (Nat.le_refl _) o)
theorem RSt.drewN (h : RSt w wr b c S F) (n : Nat) : RSt w (wr.drewN n) b c S F := h.next (dn (Below.refl _ _) n)
theorem RSt.drew (h : RSt w wr b c S F) : RSt w wr.drew b c S F := h.next (Below.refl _ _).drew
theorem RSt.far (h : RSt w wr b c S F) (hk : ¬ F k) (hw : w.heap.size ≤ k) : RSt w (wr.setCell ⟨k, j, none⟩ x) b c S F := ⟨h.rt.far hk, h.news, h.below.setCell hw _⟩
theorem RSt.kept (h : RSt w wr b c S F) (hg : wr.grownBy w' r) (hr : ∀ q, r = some q → ¬ F q ∧ w.heap.size ≤ q) : RSt w w' b c S F := ⟨h.rt.kept hg fun q e => (hr q e).1, h.news, h.below.grown hg h.size fun q e => (hr q e).2⟩
/-- A block that has just been made is none of its. -/
theorem RSt.off (h : RSt w wr b c S F) (hk : wr.heap.size ≤ k) : ¬ F k := fun hf => by have := h.rt.lt k hf; omega
theorem RSt.tabs (h : RSt w wr b c S F) (hT : G.Tabs w) : G.Tabs wr := hT.next h.below
theorem RSt.steps (h : RSt w wr b c S F) (hS : G.Steps w) : G.Steps wr := hS.next h.below
end
theorem gr_cell {F F' : Nat → Prop} {w w' : World} {g j : Nat} {x : Value} (k : Gr F w w' F') (hg : g < w.heap.size) (ho : ¬ F g) (hc : w.cell? ⟨g, j, none⟩ = some x) : w'.cell? ⟨g, j, none⟩ = some x := by
  rw [World.cell?_of_block (k.block g hg ho)]
  exact hc
theorem all_ent : Ent 31 := enters_of Tryz.func31 (by kernel_rfl) rfl
theorem no_ent : Ent 33 := enters_of Tryz.func33 (by kernel_rfl) rfl
theorem all_any (l : Int) (w : World) : Calls Tryz.prog 31 #[.int .i64 l] w fun e w' => e = .returned (.bool true) ∧ Below w.heap.size w w' := by
  go_enter Tryz.func31, Tryz.ntmps31
  go_wp2
  go_ret
  exact ⟨rfl, Below.refl _ _⟩
theorem no_any (l : Int) (w : World) : Calls Tryz.prog 33 #[.int .i64 l] w fun e w' => e = .returned (.bool false) ∧ Below w.heap.size w w' := by
  go_enter Tryz.func33, Tryz.ntmps33
  go_wp2
  go_ret
  exact ⟨rfl, Below.refl _ _⟩
theorem all_may (w : World) : May w 31 #[] fun _ => true := ⟨all_ent, fun l v _ _ _ => all_any l v⟩
theorem no_may (w : World) : May w 33 #[] fun _ => false := ⟨no_ent, fun l v _ _ _ => no_any l v⟩
theorem some_any (w : World) : Calls Tryz.prog 37 #[] w fun e w' => e = .returned (.agg #[.int .i64 2, .int .i64 1, .int .i64 1, .int .i64 2, .int .i64 1, .int .i64 1, .int .i64 1, .bool false, .bool false]) ∧ Below w.heap.size w w' := by
  go_enter Tryz.func37, Tryz.ntmps37
  go_wp2
  exact bodyPost_ret (v := .agg #[.int .i64 2, .int .i64 1, .int .i64 1, .int .i64 2, .int .i64 1, .int .i64 1, .int .i64 1, .bool false, .bool false]) (by simp [results, Tryz.results37, go_sem]) rfl ⟨rfl, (Below.refl _ _).alloc (Nat.le_refl _) _⟩
end Go.Proofs.YtmmegmonmilkcaaGreatDoor
