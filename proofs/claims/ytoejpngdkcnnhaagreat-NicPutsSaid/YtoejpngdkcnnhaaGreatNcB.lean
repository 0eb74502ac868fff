/-
  A nic in memory: its block; what it keeps is asked by look.
-/
import Derived.Test.YtoejpngdkcnnhaaGreatInb
import Derived.Test.YtoejpngdkcnnhaaGreatJn
import Derived.Test.YtoejpngdkcnnhaaGreatCfgs
namespace Go.Proofs.YtoejpngdkcnnhaaGreat
open Go.RowKit

/-- A nic by value: its config, its node, how many were sent, how many words are left. -/
structure Nc where
  c : G.Cf
  nd : Int
  st : Int
  lf : Int
/-- Its cells; the joins' pointers lie behind the others. -/
def ncl (ib : Nat) (S : Nc) (cu : Value) (J : Nat → Value) : List Value :=
  [.pointer (some ⟨ib, 0, none⟩), .int .i64 S.c.w, .int .i64 S.c.h, .int .i64 S.c.l, .int .i64 S.c.d, .int .i64 S.c.r, .int .i64 S.c.i, .int .i64 S.c.b, .bool S.c.we, .bool S.c.ca, .int .i64 S.nd, .int .i64 S.st, .int .i64 S.lf, cu] ++ (List.range 40).map J
def Nb (w : World) (b ib : Nat) (S : Nc) (cu : Value) (J : Nat → Value) : Prop := Bk w b (ncl ib S cu J).toArray 75
section
variable {w : World} {b ib : Nat} {S : Nc} {cu : Value} {J : Nat → Value}
theorem Nb.bk (h : Nb w b ib S cu J) : Bk w b (ncl ib S cu J).toArray 75 := h
theorem Nb.lt (h : Nb w b ib S cu J) : b < w.heap.size := h.bk.lt
theorem Nb.free (h : Nb w b ib S cu J) (k : Nat) : w.frozen? ⟨b, k, none⟩ = false := h.bk.free k
theorem Nb.hd (h : Nb w b ib S cu J) : w.cell? ⟨b, 0, none⟩ = some (.pointer (some ⟨ib, 0, none⟩)) ∧ w.cell? ⟨b, 10, none⟩ = some (.int .i64 S.nd) ∧ w.cell? ⟨b, 11, none⟩ = some (.int .i64 S.st) ∧ w.cell? ⟨b, 12, none⟩ = some (.int .i64 S.lf) ∧ w.cell? ⟨b, 13, none⟩ = some cu :=
  ⟨h.bk.cell 0, h.bk.cell 10, h.bk.cell 11, h.bk.cell 12, h.bk.cell 13⟩
theorem Nb.cf (h : Nb w b ib S cu J) : w.cell? ⟨b, 1, none⟩ = some (.int .i64 S.c.w) ∧ w.cell? ⟨b, 2, none⟩ = some (.int .i64 S.c.h) ∧ w.cell? ⟨b, 3, none⟩ = some (.int .i64 S.c.l) ∧ w.cell? ⟨b, 4, none⟩ = some (.int .i64 S.c.d) ∧ w.cell? ⟨b, 5, none⟩ = some (.int .i64 S.c.r) ∧ w.cell? ⟨b, 6, none⟩ = some (.int .i64 S.c.i) ∧ w.cell? ⟨b, 7, none⟩ = some (.int .i64 S.c.b) ∧ w.cell? ⟨b, 8, none⟩ = some (.bool S.c.we) ∧ w.cell? ⟨b, 9, none⟩ = some (.bool S.c.ca) :=
  ⟨h.bk.cell 1, h.bk.cell 2, h.bk.cell 3, h.bk.cell 4, h.bk.cell 5, h.bk.cell 6, h.bk.cell 7, h.bk.cell 8, h.bk.cell 9⟩
theorem Nb.cj (h : Nb w b ib S cu J) {k : Nat} (hk : k < 40) : w.cell? ⟨b, 14 + k, none⟩ = some (J k) := by
  have := h.bk.cell (14 + k)
  rw [this, List.getElem?_toArray]
  unfold ncl
  rw [List.getElem?_append_right (by simp), List.getElem?_map, List.getElem?_range (by simpa using hk)]
  simp
theorem Nb.next {w' : World} (h : Nb w b ib S cu J) (hb : Below w.heap.size w w') : Nb w' b ib S cu J := h.bk.next hb
theorem Nb.alloc (h : Nb w b ib S cu J) (o : Obj) : Nb (w.alloc o) b ib S cu J := h.bk.alloc o
theorem Nb.far {k j : Nat} {x : Value} (h : Nb w b ib S cu J) (hne : b ≠ k) : Nb (w.setCell ⟨k, j, none⟩ x) b ib S cu J := h.bk.far hne
theorem Nb.keep {w' : World} (h : Nb w b ib S cu J) (hk : w'.heap[b]? = w.heap[b]?) : Nb w' b ib S cu J := by
  unfold Nb Bk
  rw [hk]
  exact h
theorem Nb.kept {w' : World} {r : Option Nat} (h : Nb w b ib S cu J) (hg : w.grownBy w' r) (hne : r ≠ some b) : Nb w' b ib S cu J := h.bk.kept hg hne
theorem ncl_set (k : Nat) (x : Value) : (ncl ib S cu J).toArray.setIfInBounds k x = ((ncl ib S cu J).set k x).toArray := by simp
theorem Nb.setCu (h : Nb w b ib S cu J) (x : Value) : Nb (w.setCell ⟨b, 13, none⟩ x) b ib S x J := by
  have := h.bk.set 13 x
  rw [ncl_set] at this
  exact this
theorem Nb.setLf (h : Nb w b ib S cu J) (x : Int) : Nb (w.setCell ⟨b, 12, none⟩ (.int .i64 x)) b ib { S with lf := x } cu J := by
  have := h.bk.set 12 (.int .i64 x)
  rw [ncl_set] at this
  exact this
theorem Nb.setSt (h : Nb w b ib S cu J) (x : Int) : Nb (w.setCell ⟨b, 11, none⟩ (.int .i64 x)) b ib { S with st := x } cu J := by
  have := h.bk.set 11 (.int .i64 x)
  rw [ncl_set] at this
  exact this
def updJ (J : Nat → Value) (k : Nat) (x : Value) : Nat → Value := fun i => if i = k then x else J i
theorem Nb.setJ (h : Nb w b ib S cu J) (k : Nat) (x : Value) : Nb (w.setCell ⟨b, 14 + k, none⟩ x) b ib S cu (updJ J k x) := by
  have := h.bk.set (14 + k) x
  rw [ncl_set] at this
  have e : (ncl ib S cu J).set (14 + k) x = ncl ib S cu (updJ J k x) := by
    unfold ncl
    rw [List.set_append_right _ _ (by simp)]
    congr 1
    apply List.ext_getElem?
    intro i
    rw [List.getElem?_set, List.getElem?_map, List.getElem?_map]
    simp only [List.length_cons, List.length_nil, List.length_map, List.length_range, Nat.zero_add, Nat.reduceAdd, Nat.add_sub_cancel_left]
    by_cases hi : k = i
    · subst hi
      by_cases hk : k < 40
      · rw [if_pos rfl, if_pos hk, List.getElem?_range hk]
        simp [updJ]
      · rw [if_pos rfl, if_neg hk, List.getElem?_eq_none (by simp; omega)]
        rfl
    · rw [if_neg hi]
      by_cases hk : i < 40
      · rw [List.getElem?_range hk]
        simp [updJ, Ne.symm hi]
      · rw [List.getElem?_eq_none (by simp; omega)]
        rfl
  rw [e] at this
  exact this
end

/-- What a nil one keeps. -/
abbrev znl : List Value := [.pointer none, .int .i64 0, .int .i64 0, .int .i64 0, .int .i64 0, .int .i64 0, .int .i64 0, .int .i64 0, .bool false, .bool false, .int .i64 0, .int .i64 0, .int .i64 0, .slice none 0 0] ++ List.replicate 40 (.pointer none)
theorem look_any (b : Nat) (w : World) : Calls Tryz.prog 28 #[.pointer (some ⟨b, 0, none⟩)] w fun e w' => e = .returned (.pointer (some ⟨b, 0, none⟩)) ∧ w = w' := by
  go_enter Tryz.func28, Tryz.ntmps28
  go_wp2
  go_ret
  exact ⟨rfl, rfl⟩
set_option maxRecDepth 100000 in
theorem look_nil (w : World) : Calls Tryz.prog 28 #[.pointer none] w fun e w' => e = .returned (.pointer (some ⟨w.heap.size, 0, none⟩)) ∧ Bk w' w.heap.size znl.toArray 73 ∧ Below w.heap.size w w' := by
  go_enter Tryz.func28, Tryz.ntmps28
  go_wp2
  go_ret
  exact ⟨rfl, Bk.new _ _ _, (Below.refl _ _).alloc (Nat.le_refl _) _⟩
end Go.Proofs.YtoejpngdkcnnhaaGreat
