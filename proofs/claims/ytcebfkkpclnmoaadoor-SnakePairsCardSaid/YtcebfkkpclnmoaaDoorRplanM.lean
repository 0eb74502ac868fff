/-
  The walk of the document's Plan. (Written by gen_rplan.py.)
-/
import Derived.Test.YtcebfkkpclnmoaaDoorPlan
import Derived.Test.YtcebfkkpclnmoaaDoorApp2
import Derived.Test.YtcebfkkpclnmoaaDoorRway
import Derived.Deep.RegionHeld3
import Derived.Deep.CutRange
namespace Go.Proofs.YtcebfkkpclnmoaaDoor
open Go.RowKit

abbrev nil3 : Array Value := #[.slice none 0 0, .slice none 0 0, .slice none 0 0]
/-- The world: the config, the result's block, and the three rows' block. -/
structure Ow (w : World) (c : Cf) (A : Array Value) (v : World) : Prop where
  wk : Wk w c nil3 33 v
  out : v.heap[w.heap.size + 2]? = some (.cells A 33 (0, 0))
theorem Ow.start (w : World) (c : Cf) : Ow w c nil3 (((w.alloc (.cells (cfc c) 23)).alloc (.cells nil3 33)).alloc (.cells nil3 33)) :=
  ⟨(Wk.start w c nil3 _).next ((Below.refl _ _).alloc (Nat.le_refl _) _), by
    have h := heap_alloc_new ((w.alloc (.cells (cfc c) 23)).alloc (.cells nil3 33)) (.cells nil3 33)
    rw [show ((w.alloc (.cells (cfc c) 23)).alloc (.cells nil3 33)).heap.size = w.heap.size + 2 by simp] at h
    exact h⟩
theorem Ow.low {w v v' : World} {c : Cf} {A : Array Value} (h : Ow w c A v) (hb : Below (w.heap.size + 3) v v') : Ow w c A v' :=
  ⟨⟨by have := h.wk.1; unfold Blk at this ⊢; rw [hb.block _ (by omega)]; exact this, by rw [hb.block _ (by omega)]; exact h.wk.2.1, h.wk.below.trans (hb.mono (by omega))⟩, by rw [hb.block _ (by omega)]; exact h.out⟩
theorem Ow.lt {w v : World} {c : Cf} {A : Array Value} (h : Ow w c A v) : w.heap.size + 3 ≤ v.heap.size := lt_of_heap h.out
theorem Ow.trans {w v v' : World} {c : Cf} {A : Array Value} (h : Ow w c A v) (hb : Below v.heap.size v v') : Ow w c A v' := h.low (hb.mono h.lt)
theorem Ow.drew {w v : World} {c : Cf} {A : Array Value} (h : Ow w c A v) : Ow w c A v.drew := h.trans (below_drew v)
theorem Ow.drewN {w v : World} {c : Cf} {A : Array Value} (h : Ow w c A v) (n : Nat) : Ow w c A (v.drewN n) := h.trans ⟨rfl, rfl, rfl, Nat.le_refl _, fun _ _ => rfl⟩
theorem Ow.below {w v : World} {c : Cf} {A : Array Value} (h : Ow w c A v) : Below w.heap.size w v := h.wk.below
theorem Ow.cells {w v : World} {c : Cf} {A : Array Value} (h : Ow w c A v) :
    v.cell? ⟨w.heap.size, 0, none⟩ = some (.int .i64 c.w) ∧ v.cell? ⟨w.heap.size, 1, none⟩ = some (.int .i64 c.h) ∧ v.cell? ⟨w.heap.size, 2, none⟩ = some (.int .i64 c.l) ∧
    v.cell? ⟨w.heap.size, 3, none⟩ = some (.int .i64 c.d) ∧ v.cell? ⟨w.heap.size, 4, none⟩ = some (.int .i64 c.r) ∧ v.cell? ⟨w.heap.size, 5, none⟩ = some (.int .i64 c.i) ∧
    v.cell? ⟨w.heap.size, 6, none⟩ = some (.int .i64 c.b) ∧ v.cell? ⟨w.heap.size, 7, none⟩ = some (.bool c.we) ∧ v.cell? ⟨w.heap.size, 8, none⟩ = some (.bool c.ca) := h.wk.cells
theorem Ow.cells10 {w v : World} {c : Cf} {A : Array Value} (h : Ow w c A v) {g x : Nat} {z : Value} (hg : g < w.heap.size) (h0 : w.cell? ⟨g, x, none⟩ = some z) :
    v.cell? ⟨w.heap.size, 0, none⟩ = some (.int .i64 c.w) ∧ v.cell? ⟨w.heap.size, 1, none⟩ = some (.int .i64 c.h) ∧ v.cell? ⟨w.heap.size, 2, none⟩ = some (.int .i64 c.l) ∧
    v.cell? ⟨w.heap.size, 3, none⟩ = some (.int .i64 c.d) ∧ v.cell? ⟨w.heap.size, 4, none⟩ = some (.int .i64 c.r) ∧ v.cell? ⟨w.heap.size, 5, none⟩ = some (.int .i64 c.i) ∧
    v.cell? ⟨w.heap.size, 6, none⟩ = some (.int .i64 c.b) ∧ v.cell? ⟨w.heap.size, 7, none⟩ = some (.bool c.we) ∧ v.cell? ⟨w.heap.size, 8, none⟩ = some (.bool c.ca) ∧ v.cell? ⟨g, x, none⟩ = some z := by
  obtain ⟨a0, a1, a2, a3, a4, a5, a6, a7, a8⟩ := h.cells
  exact ⟨a0, a1, a2, a3, a4, a5, a6, a7, a8, (h.below.cell (p := ⟨g, x, none⟩) hg).trans h0⟩
theorem Ow.arr {w v : World} {c : Cf} {A : Array Value} (h : Ow w c A v) (j : Nat) : v.cell? ⟨w.heap.size + 2, j, none⟩ = A[j]? := cell_of h.out j
theorem Ow.free {w v : World} {c : Cf} {A : Array Value} (h : Ow w c A v) (j : Nat) : v.frozen? ⟨w.heap.size + 2, j, none⟩ = false := by
  have := h.out
  simp [World.frozen?, this]
theorem Ow.set0 {w v : World} {c : Cf} {a b d : Value} (h : Ow w c #[a, b, d] v) (x : Value) : Ow w c #[x, b, d] (v.setCell ⟨w.heap.size + 2, 0, none⟩ x) := by
  have f : ∀ k, k ≠ w.heap.size + 2 → (v.setCell ⟨w.heap.size + 2, 0, none⟩ x).heap[k]? = v.heap[k]? := fun k hk => Below.heap_setCell v ⟨w.heap.size + 2, 0, none⟩ x k hk
  refine ⟨⟨(f _ (by omega)).trans h.wk.1, (f _ (by omega)).trans h.wk.2.1, h.wk.below.setCell (by show w.heap.size ≤ w.heap.size + 2; omega) _⟩, ?_⟩
  have := h.out
  simp [World.setCell, Array.getElem?_modify, this]
theorem Ow.set1 {w v : World} {c : Cf} {a b d : Value} (h : Ow w c #[a, b, d] v) (x : Value) : Ow w c #[a, x, d] (v.setCell ⟨w.heap.size + 2, 1, none⟩ x) := by
  have f : ∀ k, k ≠ w.heap.size + 2 → (v.setCell ⟨w.heap.size + 2, 1, none⟩ x).heap[k]? = v.heap[k]? := fun k hk => Below.heap_setCell v ⟨w.heap.size + 2, 1, none⟩ x k hk
  refine ⟨⟨(f _ (by omega)).trans h.wk.1, (f _ (by omega)).trans h.wk.2.1, h.wk.below.setCell (by show w.heap.size ≤ w.heap.size + 2; omega) _⟩, ?_⟩
  have := h.out
  simp [World.setCell, Array.getElem?_modify, this]
theorem Ow.set2 {w v : World} {c : Cf} {a b d : Value} (h : Ow w c #[a, b, d] v) (x : Value) : Ow w c #[a, b, x] (v.setCell ⟨w.heap.size + 2, 2, none⟩ x) := by
  have f : ∀ k, k ≠ w.heap.size + 2 → (v.setCell ⟨w.heap.size + 2, 2, none⟩ x).heap[k]? = v.heap[k]? := fun k hk => Below.heap_setCell v ⟨w.heap.size + 2, 2, none⟩ x k hk
  refine ⟨⟨(f _ (by omega)).trans h.wk.1, (f _ (by omega)).trans h.wk.2.1, h.wk.below.setCell (by show w.heap.size ≤ w.heap.size + 2; omega) _⟩, ?_⟩
  have := h.out
  simp [World.setCell, Array.getElem?_modify, this]
theorem R3.cell {B : Nat} {w : World} {a b c x : Value} {la lb lc : List Int} {k j : Nat} (h : R3 B w a b c la lb lc) (hk : k < B) : R3 B (w.setCell ⟨k, j, none⟩ x) a b c la lb lc := by
  have f : ∀ g, g ≠ k → (w.setCell ⟨k, j, none⟩ x).heap[g]? = w.heap[g]? := fun g hg => Below.heap_setCell w ⟨k, j, none⟩ x g hg
  exact ⟨own_keep h.oa (fun g hg _ => f g (by have := (own_lt h.oa hg).1; omega)), own_keep h.ob (fun g hg _ => f g (by have := (own_lt h.ob hg).1; omega)), own_keep h.oc (fun g hg _ => f g (by have := (own_lt h.oc hg).1; omega)), h.ab, h.ac, h.bc⟩

/-- The three rows lie in the cells. -/
def Ox (w : World) (c : Cf) (la lb lc : List Int) (v : World) : Prop := ∃ a b d, Ow w c #[a, b, d] v ∧ R3 (w.heap.size + 3) v a b d la lb lc
theorem Ox.start {w v : World} {c : Cf} (h : Ow w c nil3 v) : Ox w c [] [] [] v := ⟨_, _, _, h, R3.nil _ _⟩
theorem Ox.trans {w v v' : World} {c : Cf} {la lb lc : List Int} (h : Ox w c la lb lc v) (hb : Below v.heap.size v v') : Ox w c la lb lc v' := by
  obtain ⟨a, b, d, h1, h2⟩ := h
  exact ⟨a, b, d, h1.trans hb, h2.below hb⟩

/-- What tells a set that is none. -/
theorem rpl_inv {c : Cf} {f : Int} (zs : List Int) (hf : isN c f = true) (h0 : zs ≠ []) : ∃ GD : Nat → Prop, GD 0 ∧
    (∀ k, k < zs.length → isN c (zs.getD k 0) = false → plB c f zs = false) ∧
    (∀ k j, k < zs.length → j < k → zs.getD j 0 = zs.getD k 0 → plB c f zs = false) ∧
    (∀ k, k < zs.length → GD k → isN c (zs.getD k 0) = true → (∀ j, j < k → zs.getD j 0 ≠ zs.getD k 0) → GD (k + 1)) ∧
    (GD zs.length → plB c f zs = true) := by
  have tk : ∀ k, k < zs.length → zs.take (k + 1) = zs.take k ++ [zs.getD k 0] := by
    intro k hk
    rw [getD_at hk, List.take_succ_eq_append_getElem hk]
  refine ⟨fun k => (∀ n ∈ zs.take k, isN c n = true) ∧ (zs.take k).Nodup, ?_, ?_, ?_, ?_, ?_⟩
  · exact ⟨fun n hn => (by rw [List.take_zero] at hn; cases hn), (by rw [List.take_zero]; exact List.nodup_nil)⟩
  · intro k hk h
    cases e : plB c f zs with
    | false => rfl
    | true =>
      unfold plB at e
      simp only [Bool.and_eq_true] at e
      have := (stB'_iff.1 e.2).2.1 _ (getD_mem hk)
      rw [h] at this
      cases this
  · intro k j hk hj h
    cases e : plB c f zs with
    | false => rfl
    | true =>
      unfold plB at e
      simp only [Bool.and_eq_true] at e
      have hd := (stB'_iff.1 e.2).2.2
      rw [List.nodup_iff_pairwise_ne, List.pairwise_iff_getElem] at hd
      exact absurd (by rw [← getD_at (l := zs) (by omega), ← getD_at hk]; exact h) (hd j k (by omega) hk hj)
  · intro k hk h h1 h2
    rw [tk k hk]
    refine ⟨fun n hn => ?_, ?_⟩
    · rcases List.mem_append.1 hn with hn | hn
      · exact h.1 n hn
      · rw [List.mem_singleton] at hn
        exact hn ▸ h1
    · refine List.nodup_append.2 ⟨h.2, List.pairwise_singleton _ _, ?_⟩
      intro a ha b hb e
      rw [List.mem_singleton] at hb
      obtain ⟨j, hj, rfl⟩ := List.getElem_of_mem ha
      rw [List.length_take] at hj
      rw [List.getElem_take] at e
      exact h2 j (by omega) (by rw [getD_at (l := zs) (by omega), e, hb])
  · intro h
    rw [List.take_length] at h
    exact plB_mk hf h0 h.1 h.2

/-- The three rows, label by label and node by node. -/
theorem rpl_rows {c : Cf} (f : Int) (zs : List Int) (hN : ∀ n ∈ zs, isN c n = true) (hl : zs.length ≤ 1000) : ∃ G L S : Nat → Nat → List Int,
    (G 0 0 = [] ∧ L 0 0 = [] ∧ S 0 0 = []) ∧
    (G (nod c).toNat 0 = gtr c f (srt c zs) ∧ L (nod c).toNat 0 = les c f (srt c zs) ∧ S (nod c).toNat 0 = sef c f (srt c zs)) ∧
    (∀ l i, i ≤ zs.length → (G l i).length ≤ 2000 ∧ (L l i).length ≤ 2000 ∧ (S l i).length ≤ 2000) ∧
    (∀ l, G l zs.length = G (l + 1) 0 ∧ L l zs.length = L (l + 1) 0 ∧ S l zs.length = S (l + 1) 0) ∧
    (∀ (l i : Nat), i < zs.length → lb c (zs.getD i 0) ≠ (l : Int) → G l (i + 1) = G l i ∧ L l (i + 1) = L l i ∧ S l (i + 1) = S l i) ∧
    (∀ (l i : Nat), i < zs.length → lb c (zs.getD i 0) = (l : Int) → lb c f < (l : Int) → G l (i + 1) = G l i ++ [zs.getD i 0] ∧ L l (i + 1) = L l i ∧ S l (i + 1) = S l i) ∧
    (∀ (l i : Nat), i < zs.length → lb c (zs.getD i 0) = (l : Int) → (l : Int) < lb c f → G l (i + 1) = G l i ∧ L l (i + 1) = zs.getD i 0 :: L l i ∧ S l (i + 1) = S l i) ∧
    (∀ (l i : Nat), i < zs.length → lb c (zs.getD i 0) = (l : Int) → (l : Int) = lb c f → G l (i + 1) = G l i ∧ L l (i + 1) = L l i ∧ S l (i + 1) = S l i ++ [zs.getD i 0]) := by
  have tk : ∀ k, k < zs.length → zs.take (k + 1) = zs.take k ++ [zs.getD k 0] := by
    intro k hk
    rw [getD_at hk, List.take_succ_eq_append_getElem hk]
  have P1 : ∀ (l i : Nat), i < zs.length → lb c (zs.getD i 0) = (l : Int) → flt c zs l ++ lev c (zs.take (i + 1)) (l : Int) = (flt c zs l ++ lev c (zs.take i) (l : Int)) ++ [zs.getD i 0] := by
    intro l i hi h
    rw [tk i hi, lev_snoc, if_pos h, List.append_assoc]
  have P0 : ∀ (l i : Nat), i < zs.length → lb c (zs.getD i 0) ≠ (l : Int) → flt c zs l ++ lev c (zs.take (i + 1)) (l : Int) = flt c zs l ++ lev c (zs.take i) (l : Int) := by
    intro l i hi h
    rw [tk i hi, lev_snoc, if_neg h]
  have PN : ∀ l : Nat, flt c zs l ++ lev c (zs.take zs.length) (l : Int) = flt c zs (l + 1) ++ lev c (zs.take 0) ((l + 1 : Nat) : Int) := by
    intro l
    rw [List.take_length]
    show flt c zs (l + 1) = _
    simp [lev]
  have PL : ∀ (l i : Nat), (flt c zs l ++ lev c (zs.take i) (l : Int)).length ≤ 2000 := by
    intro l i
    have a := flt_le hN l
    have b := lev_le c (zs.take i) (l : Int)
    rw [List.length_take] at b
    rw [List.length_append]
    omega
  refine ⟨fun l i => gtr c f (flt c zs l ++ lev c (zs.take i) l), fun l i => les c f (flt c zs l ++ lev c (zs.take i) l), fun l i => sef c f (flt c zs l ++ lev c (zs.take i) l), ⟨rfl, rfl, rfl⟩, ?_, ?_, ?_, ?_, ?_, ?_, ?_⟩
  · have e : flt c zs (nod c).toNat ++ lev c (zs.take 0) ((nod c).toNat : Int) = srt c zs := by rw [flt_all hN]; simp [lev]
    dsimp only
    rw [e]
    exact ⟨rfl, rfl, rfl⟩
  · intro l i _
    have := PL l i
    have a := gtr_le c f (flt c zs l ++ lev c (zs.take i) l)
    have b := les_le c f (flt c zs l ++ lev c (zs.take i) l)
    have d := sef_le c f (flt c zs l ++ lev c (zs.take i) l)
    dsimp only
    omega
  · intro l
    dsimp only
    rw [PN]
    exact ⟨rfl, rfl, rfl⟩
  · intro l i hi h
    dsimp only
    rw [P0 l i hi h]
    exact ⟨rfl, rfl, rfl⟩
  · intro l i hi h h1
    dsimp only
    rw [P1 l i hi h, gtr_snoc, les_snoc, sef_snoc, if_pos (by omega), if_neg (by omega), if_neg (by omega)]
    exact ⟨rfl, rfl, rfl⟩
  · intro l i hi h h1
    dsimp only
    rw [P1 l i hi h, gtr_snoc, les_snoc, sef_snoc, if_neg (by omega), if_pos (by omega), if_neg (by omega)]
    exact ⟨rfl, rfl, rfl⟩
  · intro l i hi h h1
    dsimp only
    rw [P1 l i hi h, gtr_snoc, les_snoc, sef_snoc, if_neg (by omega), if_neg (by omega), if_pos (by omega)]
    exact ⟨rfl, rfl, rfl⟩
end Go.Proofs.YtcebfkkpclnmoaaDoor
