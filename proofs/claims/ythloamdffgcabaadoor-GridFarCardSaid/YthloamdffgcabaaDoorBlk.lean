/-
  A config's block, and an array's behind it, through a law's walk.
-/
import Derived.Test.YthloamdffgcabaaDoorSmall
import Derived.Test.YthloamdffgcabaaDoorLives
namespace Go.Proofs.YthloamdffgcabaaDoor
open Go.RowKit

/-- Block b holds this config. -/
def Blk (v : World) (b : Nat) (c : Cf) : Prop := v.heap[b]? = some (.cells (cfc c) 23 (0, 0))
theorem Blk.cell {v : World} {b : Nat} {c : Cf} (h : Blk v b c) (j : Nat) : v.cell? ⟨b, j, none⟩ = (cfc c)[j]? := cell_of h j
theorem Blk.free {v : World} {b : Nat} {c : Cf} (h : Blk v b c) (j : Nat) : v.frozen? ⟨b, j, none⟩ = false := by
  unfold Blk at h
  simp [World.frozen?, h]
theorem Blk.lt {v : World} {b : Nat} {c : Cf} (h : Blk v b c) : b < v.heap.size := lt_of_heap h
theorem Blk.below {v v' : World} {b : Nat} {c : Cf} (h : Blk v b c) (hb : Below v.heap.size v v') : Blk v' b c := by
  unfold Blk
  rw [hb.block b h.lt]
  exact h
theorem Blk.new (w : World) (c : Cf) : Blk (w.alloc (.cells (cfc c) 23)) w.heap.size c := heap_alloc_new w _
theorem Blk.alloc {v : World} {b : Nat} {c : Cf} (h : Blk v b c) (o : Obj) : Blk (v.alloc o) b c := h.below ((Below.refl _ _).alloc (Nat.le_refl _) o)
theorem Blk.all {v : World} {b : Nat} {c : Cf} (h : Blk v b c) (d : Cf) :
    Blk (((((((((v.setCell ⟨b, 0, none⟩ (.int .i64 d.w)).setCell ⟨b, 1, none⟩ (.int .i64 d.h)).setCell ⟨b, 2, none⟩ (.int .i64 d.l)).setCell ⟨b, 3, none⟩ (.int .i64 d.d)).setCell ⟨b, 4, none⟩ (.int .i64 d.r)).setCell ⟨b, 5, none⟩ (.int .i64 d.i)).setCell ⟨b, 6, none⟩ (.int .i64 d.b)).setCell ⟨b, 7, none⟩ (.bool d.we)).setCell ⟨b, 8, none⟩ (.bool d.ca)) b d := by
  unfold Blk at h ⊢
  simp [World.setCell, Array.getElem?_modify, h]
theorem below_nine {w v : World} {B b : Nat} (h : Below B w v) (hb : B ≤ b) (x0 x1 x2 x3 x4 x5 x6 x7 x8 : Value) :
    Below B w (((((((((v.setCell ⟨b, 0, none⟩ x0).setCell ⟨b, 1, none⟩ x1).setCell ⟨b, 2, none⟩ x2).setCell ⟨b, 3, none⟩ x3).setCell ⟨b, 4, none⟩ x4).setCell ⟨b, 5, none⟩ x5).setCell ⟨b, 6, none⟩ x6).setCell ⟨b, 7, none⟩ x7).setCell ⟨b, 8, none⟩ x8) :=
  ((((((((h.setCell hb _).setCell hb _).setCell hb _).setCell hb _).setCell hb _).setCell hb _).setCell hb _).setCell hb _).setCell hb _
theorem nine_far {v : World} {b k : Nat} (h : k ≠ b) (x0 x1 x2 x3 x4 x5 x6 x7 x8 : Value) :
    (((((((((v.setCell ⟨b, 0, none⟩ x0).setCell ⟨b, 1, none⟩ x1).setCell ⟨b, 2, none⟩ x2).setCell ⟨b, 3, none⟩ x3).setCell ⟨b, 4, none⟩ x4).setCell ⟨b, 5, none⟩ x5).setCell ⟨b, 6, none⟩ x6).setCell ⟨b, 7, none⟩ x7).setCell ⟨b, 8, none⟩ x8).heap[k]? = v.heap[k]? := by
  have f : ∀ (u : World) j x, (u.setCell ⟨b, j, none⟩ x).heap[k]? = u.heap[k]? := fun u j x => Below.heap_setCell u ⟨b, j, none⟩ x k h
  rw [f, f, f, f, f, f, f, f, f]

/-- A law's world: the config in the first block of the call's own, and an array in the one behind it. -/
def Wk (w : World) (c : Cf) (A : Array Value) (t : TypeId) (v : World) : Prop := Blk v w.heap.size c ∧ v.heap[w.heap.size + 1]? = some (.cells A t (0, 0)) ∧ Below w.heap.size w v
theorem Wk.start (w : World) (c : Cf) (A : Array Value) (t : TypeId) : Wk w c A t ((w.alloc (.cells (cfc c) 23)).alloc (.cells A t)) :=
  ⟨(Blk.new w c).alloc _, by
    have h := heap_alloc_new (w.alloc (.cells (cfc c) 23)) (.cells A t)
    rw [show (w.alloc (.cells (cfc c) 23)).heap.size = w.heap.size + 1 by simp] at h
    exact h, ((Below.refl _ _).alloc (Nat.le_refl _) _).alloc (by simp) _⟩
theorem Wk.next {w v v' : World} {c : Cf} {A : Array Value} {t : TypeId} (h : Wk w c A t v) (hb : Below v.heap.size v v') : Wk w c A t v' :=
  ⟨h.1.below hb, by rw [hb.block _ (lt_of_heap h.2.1)]; exact h.2.1, nxt h.2.2 hb⟩
theorem Wk.drewN {w v : World} {c : Cf} {A : Array Value} {t : TypeId} (h : Wk w c A t v) (n : Nat) : Wk w c A t (v.drewN n) := h.next ⟨rfl, rfl, rfl, Nat.le_refl _, fun _ _ => rfl⟩
theorem Wk.drew {w v : World} {c : Cf} {A : Array Value} {t : TypeId} (h : Wk w c A t v) : Wk w c A t v.drew := h.next ⟨rfl, rfl, rfl, Nat.le_refl _, fun _ _ => rfl⟩
theorem Wk.below {w v : World} {c : Cf} {A : Array Value} {t : TypeId} (h : Wk w c A t v) : Below w.heap.size w v := h.2.2
theorem Wk.lt {w v : World} {c : Cf} {A : Array Value} {t : TypeId} (h : Wk w c A t v) : w.heap.size + 1 < v.heap.size := lt_of_heap h.2.1
theorem Wk.arr {w v : World} {c : Cf} {A : Array Value} {t : TypeId} (h : Wk w c A t v) (j : Nat) : v.cell? ⟨w.heap.size + 1, j, none⟩ = A[j]? := cell_of h.2.1 j
theorem Wk.steps {w v : World} {c : Cf} {A : Array Value} {t : TypeId} (h : Wk w c A t v) (hS : Steps w) : Steps v := hS.next h.2.2
theorem Wk.backs {w v : World} {c : Cf} {A : Array Value} {t : TypeId} (h : Wk w c A t v) (hS : Backs w) : Backs v := hS.next h.2.2
theorem Wk.cells {w v : World} {c : Cf} {A : Array Value} {t : TypeId} (h : Wk w c A t v) :
    v.cell? ⟨w.heap.size, 0, none⟩ = some (.int .i64 c.w) ∧ v.cell? ⟨w.heap.size, 1, none⟩ = some (.int .i64 c.h) ∧ v.cell? ⟨w.heap.size, 2, none⟩ = some (.int .i64 c.l) ∧
    v.cell? ⟨w.heap.size, 3, none⟩ = some (.int .i64 c.d) ∧ v.cell? ⟨w.heap.size, 4, none⟩ = some (.int .i64 c.r) ∧ v.cell? ⟨w.heap.size, 5, none⟩ = some (.int .i64 c.i) ∧
    v.cell? ⟨w.heap.size, 6, none⟩ = some (.int .i64 c.b) ∧ v.cell? ⟨w.heap.size, 7, none⟩ = some (.bool c.we) ∧ v.cell? ⟨w.heap.size, 8, none⟩ = some (.bool c.ca) :=
  ⟨h.1.cell 0, h.1.cell 1, h.1.cell 2, h.1.cell 3, h.1.cell 4, h.1.cell 5, h.1.cell 6, h.1.cell 7, h.1.cell 8⟩
theorem Wk.free {w v : World} {c : Cf} {A : Array Value} {t : TypeId} (h : Wk w c A t v) :
    v.frozen? ⟨w.heap.size, 0, none⟩ = false ∧ v.frozen? ⟨w.heap.size, 1, none⟩ = false ∧ v.frozen? ⟨w.heap.size, 2, none⟩ = false ∧ v.frozen? ⟨w.heap.size, 3, none⟩ = false ∧ v.frozen? ⟨w.heap.size, 4, none⟩ = false ∧
    v.frozen? ⟨w.heap.size, 5, none⟩ = false ∧ v.frozen? ⟨w.heap.size, 6, none⟩ = false ∧ v.frozen? ⟨w.heap.size, 7, none⟩ = false ∧ v.frozen? ⟨w.heap.size, 8, none⟩ = false :=
  ⟨h.1.free 0, h.1.free 1, h.1.free 2, h.1.free 3, h.1.free 4, h.1.free 5, h.1.free 6, h.1.free 7, h.1.free 8⟩
/-- Another config is stored. -/
theorem Wk.all {w v : World} {c : Cf} {A : Array Value} {t : TypeId} (h : Wk w c A t v) (d : Cf) :
    Wk w d A t (((((((((v.setCell ⟨w.heap.size, 0, none⟩ (.int .i64 d.w)).setCell ⟨w.heap.size, 1, none⟩ (.int .i64 d.h)).setCell ⟨w.heap.size, 2, none⟩ (.int .i64 d.l)).setCell ⟨w.heap.size, 3, none⟩ (.int .i64 d.d)).setCell ⟨w.heap.size, 4, none⟩ (.int .i64 d.r)).setCell ⟨w.heap.size, 5, none⟩ (.int .i64 d.i)).setCell ⟨w.heap.size, 6, none⟩ (.int .i64 d.b)).setCell ⟨w.heap.size, 7, none⟩ (.bool d.we)).setCell ⟨w.heap.size, 8, none⟩ (.bool d.ca)) :=
  ⟨h.1.all d, (nine_far (by omega) _ _ _ _ _ _ _ _ _).trans h.2.1, below_nine h.2.2 (Nat.le_refl _) _ _ _ _ _ _ _ _ _⟩

/-- The same without an array. -/
def W1 (w : World) (c : Cf) (v : World) : Prop := Blk v w.heap.size c ∧ Below w.heap.size w v
theorem W1.start (w : World) (c : Cf) : W1 w c (w.alloc (.cells (cfc c) 23)) := ⟨Blk.new w c, (Below.refl _ _).alloc (Nat.le_refl _) _⟩
theorem W1.next {w v v' : World} {c : Cf} (h : W1 w c v) (hb : Below v.heap.size v v') : W1 w c v' := ⟨h.1.below hb, nxt h.2 hb⟩
theorem W1.drewN {w v : World} {c : Cf} (h : W1 w c v) (n : Nat) : W1 w c (v.drewN n) := h.next ⟨rfl, rfl, rfl, Nat.le_refl _, fun _ _ => rfl⟩
theorem W1.drew {w v : World} {c : Cf} (h : W1 w c v) : W1 w c v.drew := h.next ⟨rfl, rfl, rfl, Nat.le_refl _, fun _ _ => rfl⟩
theorem W1.below {w v : World} {c : Cf} (h : W1 w c v) : Below w.heap.size w v := h.2
theorem W1.lt {w v : World} {c : Cf} (h : W1 w c v) : w.heap.size < v.heap.size := lt_of_heap h.1
theorem W1.steps {w v : World} {c : Cf} (h : W1 w c v) (hS : Steps w) : Steps v := hS.next h.2
theorem W1.backs {w v : World} {c : Cf} (h : W1 w c v) (hS : Backs w) : Backs v := hS.next h.2
theorem W1.cells {w v : World} {c : Cf} (h : W1 w c v) :
    v.cell? ⟨w.heap.size, 0, none⟩ = some (.int .i64 c.w) ∧ v.cell? ⟨w.heap.size, 1, none⟩ = some (.int .i64 c.h) ∧ v.cell? ⟨w.heap.size, 2, none⟩ = some (.int .i64 c.l) ∧
    v.cell? ⟨w.heap.size, 3, none⟩ = some (.int .i64 c.d) ∧ v.cell? ⟨w.heap.size, 4, none⟩ = some (.int .i64 c.r) ∧ v.cell? ⟨w.heap.size, 5, none⟩ = some (.int .i64 c.i) ∧
    v.cell? ⟨w.heap.size, 6, none⟩ = some (.int .i64 c.b) ∧ v.cell? ⟨w.heap.size, 7, none⟩ = some (.bool c.we) ∧ v.cell? ⟨w.heap.size, 8, none⟩ = some (.bool c.ca) :=
  ⟨h.1.cell 0, h.1.cell 1, h.1.cell 2, h.1.cell 3, h.1.cell 4, h.1.cell 5, h.1.cell 6, h.1.cell 7, h.1.cell 8⟩
theorem W1.free {w v : World} {c : Cf} (h : W1 w c v) :
    v.frozen? ⟨w.heap.size, 0, none⟩ = false ∧ v.frozen? ⟨w.heap.size, 1, none⟩ = false ∧ v.frozen? ⟨w.heap.size, 2, none⟩ = false ∧ v.frozen? ⟨w.heap.size, 3, none⟩ = false ∧ v.frozen? ⟨w.heap.size, 4, none⟩ = false ∧
    v.frozen? ⟨w.heap.size, 5, none⟩ = false ∧ v.frozen? ⟨w.heap.size, 6, none⟩ = false ∧ v.frozen? ⟨w.heap.size, 7, none⟩ = false ∧ v.frozen? ⟨w.heap.size, 8, none⟩ = false :=
  ⟨h.1.free 0, h.1.free 1, h.1.free 2, h.1.free 3, h.1.free 4, h.1.free 5, h.1.free 6, h.1.free 7, h.1.free 8⟩
theorem W1.all {w v : World} {c : Cf} (h : W1 w c v) (d : Cf) :
    W1 w d (((((((((v.setCell ⟨w.heap.size, 0, none⟩ (.int .i64 d.w)).setCell ⟨w.heap.size, 1, none⟩ (.int .i64 d.h)).setCell ⟨w.heap.size, 2, none⟩ (.int .i64 d.l)).setCell ⟨w.heap.size, 3, none⟩ (.int .i64 d.d)).setCell ⟨w.heap.size, 4, none⟩ (.int .i64 d.r)).setCell ⟨w.heap.size, 5, none⟩ (.int .i64 d.i)).setCell ⟨w.heap.size, 6, none⟩ (.int .i64 d.b)).setCell ⟨w.heap.size, 7, none⟩ (.bool d.we)).setCell ⟨w.heap.size, 8, none⟩ (.bool d.ca)) :=
  ⟨h.1.all d, below_nine h.2 (Nat.le_refl _) _ _ _ _ _ _ _ _ _⟩

theorem small_form (c : Cf) (w : World) : Calls Tryd.prog 27 #[cfv c] w fun e w' => ∃ dw dh dl dd dr di db de da, e = .returned (.agg #[.int .i64 dw, .int .i64 dh, .int .i64 dl, .int .i64 dd, .int .i64 dr, .int .i64 di, .int .i64 db, .bool de, .bool da]) ∧ Below w.heap.size w w' ∧ Fits ⟨dw, dh, dl, dd, dr, di, db, de, da⟩ ∧ dw ≤ 4 ∧ dh ≤ 4 :=
  (small_any c w).mono fun _ _ ⟨c', he, hb, f, a, b⟩ => ⟨c'.w, c'.h, c'.l, c'.d, c'.r, c'.i, c'.b, c'.we, c'.ca, he, hb, f, a, b⟩

theorem outB_in {lo hi x : Int} (h1 : lo ≤ x) (h2 : x ≤ hi) : outB lo hi x = false := by
  unfold outB
  simp only [Bool.or_eq_false_iff, decide_eq_false_iff_not]
  omega
theorem chk_fits {c : Cf} (f : Fits c) : chk c = 0 := by
  have e1 : t1 c = false := by unfold t1; rw [outB_in f.w1 f.w2, outB_in f.h1 f.h2]; rfl
  have e2 : t2 c = false := by
    unfold t2
    apply outB_in
    · cases h : c.ca
      · simp [f.l1]
      · simp [f.lc h]
    · exact f.l2
  have e3 : t3 c = false := by unfold t3; rw [outB_in f.d1 f.d2, outB_in f.r1 f.r2, outB_in f.i1 f.i2]; rfl
  have e4 : t4 c = false := by unfold t4; rw [outB_in f.b1 f.b2]
  unfold chk
  rw [e1, e2, e3, e4]
  rfl

/-- A node that is there, made of any number. -/
def nde (c : Cf) (n : Int) : Int := (IntKind.u64.wrap n).tmod (nod c)
theorem nde_in {c : Cf} (h : chk c = 0) (n : Int) : isN c (nde c n) = true := by
  have f := fits_of h
  have hm := mul_in f.w1 f.w2 f.h1 f.h2
  obtain ⟨q, e, h0, h1⟩ := tm_in n (nod c) (by rw [nod_of h]; omega)
  unfold nde
  rw [e]
  unfold isN
  simp [h0, h1]

theorem node_any (c : Cf) (h : chk c = 0) (n : Int) (w : World) : Calls Tryd.prog 28 #[cfv c, .int .i64 n] w fun e w' => e = .returned (.int .i64 (nde c n)) ∧ Below w.heap.size w w' := by
  have K := rnodes_any c
  have A0 : Hid (At w c (w.alloc (.cells (cfc c) 23))) := At.start w c
  have f := fits_of h
  have hm := mul_in f.w1 f.w2 f.h1 f.h2
  obtain ⟨q, e, h0, h1⟩ := tm_in n (nod c) (by rw [nod_of h]; omega)
  unfold nde
  rw [e]
  rw [← nod_of h] at hm
  generalize nod c = N at *
  obtain ⟨m1, m2⟩ := hm
  have hq : q ≤ 4096 := by omega
  clear f h
  obtain ⟨cw, ch, cl, cd, cr, ci, cb, we, ca⟩ := c
  simp only [cfv, cfc] at *
  go_enter Tryd.func28, Tryd.ntmps28
  go_wp2_with fail
  go_at_call 33
  refine (K _).mono ?_
  rintro e v1 ⟨rfl, hb⟩
  have HA1 : Hid (At w _ v1) := A0.out.trans hb
  clear hb K
  go_wp2
  go_ret
  exact ⟨rfl, HA1.out.below⟩

/-- How much a port is more than the one that leads back. -/
def trn (p : Int) : Int := if p < 1 then 0 else if 4 < p then 0 else p - bck p
theorem trn_ok (p : Int) : bck (bck p) = bck p + trn p := by
  by_cases h : p = 0 ∨ p = 1 ∨ p = 2 ∨ p = 3 ∨ p = 4
  · rcases h with rfl | rfl | rfl | rfl | rfl <;> decide
  · have e : bck p = -1 := by
      unfold bck
      rw [if_neg (by omega), if_neg (by omega), if_neg (by omega), if_neg (by omega), if_neg (by omega)]
    have t : trn p = 0 := by
      unfold trn
      split
      · rfl
      · rw [if_pos (by omega)]
    rw [e, t]
    decide
theorem bck_in (p : Int) : -1 ≤ bck p ∧ bck p ≤ 4 := by
  unfold bck
  repeat' split
  all_goals omega
theorem trn_in (p : Int) : -4 ≤ trn p ∧ trn p ≤ 5 := by
  have := bck_in p
  unfold trn
  repeat' split
  all_goals omega

theorem turned_any (p : Int) (w : World) (hB : Backs w) : Calls Tryd.prog 29 #[.int .i64 p] w fun e w' => e = .returned (.int .i64 (trn p)) ∧ w = w' := by
  have K := back_any p w hB
  have b := bck_in p
  clear hB
  unfold trn
  by_cases h1 : p < 1
  · rw [if_pos h1]
    clear K
    go_enter Tryd.func29, Tryd.ntmps29
    go_wp2
    go_ret
    exact ⟨rfl, rfl⟩
  · rw [if_neg h1]
    by_cases h2 : 4 < p
    · rw [if_pos h2]
      clear K
      go_enter Tryd.func29, Tryd.ntmps29
      go_wp2
      go_ret
      exact ⟨rfl, rfl⟩
    · rw [if_neg h2]
      generalize bck p = q at *
      obtain ⟨b1, b2⟩ := b
      go_enter Tryd.func29, Tryd.ntmps29
      go_wp2_with fail
      go_at_call 18
      refine K.mono ?_
      rintro e v1 ⟨rfl, rfl⟩
      go_wp2
      go_ret
      exact ⟨rfl, rfl⟩
end Go.Proofs.YthloamdffgcabaaDoor
