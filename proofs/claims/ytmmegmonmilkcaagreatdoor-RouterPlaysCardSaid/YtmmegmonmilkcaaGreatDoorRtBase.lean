/-
 A router as lists: its steps, what always holds of it (plain mathematics).
 What always holds of a router is kept by its steps (plain mathematics).
 What always holds of a router is kept by a moving, and holds of a new one (plain mathematics).
 A parcel alone in a router (plain mathematics).
 Who has a lane is of its class, and has no other (plain mathematics).
 Two parcels in a router, in lanes of their own (plain mathematics).
-/
import Derived.Test.YtmmegmonmilkcaaGreatDoorKn
namespace Go.Proofs.YtmmegmonmilkcaaGreatDoor
structure RS where
 n : Nat
 node : Int
 ins : List KS
 own : List Int
 gv : List Nat
 mv : List Nat
def zks : KS := ⟨0, [], 0, 0, 0, false⟩
def inRt (S : RS) (p l : Int) : Bool := decide (0 ≤ p ∧ p < 5 ∧ 0 ≤ l ∧ l < (S.n : Int))
def ixRt (S : RS) (p l : Int) : Nat := p.toNat * S.n + l.toNat
def putRt (S : RS) (p l : Int) (x : Nat) : RS × Int :=
 if inRt S p l = true then ({ S with ins := S.ins.set (ixRt S p l) (putK (S.ins.getD (ixRt S p l) zks) x).1 }, (putK (S.ins.getD (ixRt S p l) zks) x).2) else (S, 1)
def toldRt (T : Fl → Int → Int) (K : KS) (ch : Int) : Int :=
 match K.ws with
 | [] => 0
 | x :: _ => T (readR x).1 ch
def findRt (T : Fl → Int → Int) (S : RS) (p l ch : Int) : RS × Bool :=
 if inRt S p l = true then
  if (findK (S.ins.getD (ixRt S p l) zks) S.node (toldRt T (S.ins.getD (ixRt S p l) zks) ch)).2 = true then
   ({ S with ins := S.ins.set (ixRt S p l) (findK (S.ins.getD (ixRt S p l) zks) S.node (toldRt T (S.ins.getD (ixRt S p l) zks) ch)).1 }, true)
  else (S, false)
 else (S, false)
def freeRt (S : RS) (q first many i : Nat) : Bool := decide (first ≤ i ∧ i < first + many) && decide (S.own.getD (q * S.n + i) 0 < 0)
def giveRt (C : Nat → Nat × Nat) (S : RS) (p l : Int) : RS × Bool :=
 if inRt S p l = true then
  if (S.ins.getD (ixRt S p l) zks).ph = 1 then
   if (ask S.n (S.gv.getD (S.ins.getD (ixRt S p l) zks).port.toNat 0) (freeRt S (S.ins.getD (ixRt S p l) zks).port.toNat (C l.toNat).1 (C l.toNat).2)).2 = true then
    ({ S with
      gv := S.gv.set (S.ins.getD (ixRt S p l) zks).port.toNat (nxtl S.n (S.gv.getD (S.ins.getD (ixRt S p l) zks).port.toNat 0) (freeRt S (S.ins.getD (ixRt S p l) zks).port.toNat (C l.toNat).1 (C l.toNat).2)),
      own := S.own.set ((S.ins.getD (ixRt S p l) zks).port.toNat * S.n + (ask S.n (S.gv.getD (S.ins.getD (ixRt S p l) zks).port.toNat 0) (freeRt S (S.ins.getD (ixRt S p l) zks).port.toNat (C l.toNat).1 (C l.toNat).2)).1) (ixRt S p l : Int),
      ins := S.ins.set (ixRt S p l) (giveK (S.ins.getD (ixRt S p l) zks) ((ask S.n (S.gv.getD (S.ins.getD (ixRt S p l) zks).port.toNat 0) (freeRt S (S.ins.getD (ixRt S p l) zks).port.toNat (C l.toNat).1 (C l.toNat).2)).1 : Int)).1 }, true)
   else (S, false)
  else (S, false)
 else (S, false)
def goesRt (S : RS) (p : Int) (may : Int → Bool) (k : Nat) : Bool :=
 decide ((S.ins.getD k zks).ph = 2) && (decide ((S.ins.getD k zks).port = p) && (decide ((S.ins.getD k zks).ws ≠ []) && (decide (p = 0) || may (S.ins.getD k zks).lane)))
def moveRt (S : RS) (p : Int) (may : Int → Bool) : RS × KO × Nat × Bool :=
 if 0 ≤ p ∧ p < 5 then
  if (ask (5 * S.n) (S.mv.getD p.toNat 0) (goesRt S p may)).2 = true then
   ({ S with
     mv := S.mv.set p.toNat (nxtl (5 * S.n) (S.mv.getD p.toNat 0) (goesRt S p may)),
     ins := S.ins.set (ask (5 * S.n) (S.mv.getD p.toNat 0) (goesRt S p may)).1 (takeK (S.ins.getD (ask (5 * S.n) (S.mv.getD p.toNat 0) (goesRt S p may)).1 zks)).1,
     own := if (takeK (S.ins.getD (ask (5 * S.n) (S.mv.getD p.toNat 0) (goesRt S p may)).1 zks)).2.1.ends = true ∧ p ≠ 0 then S.own.set (p.toNat * S.n + (takeK (S.ins.getD (ask (5 * S.n) (S.mv.getD p.toNat 0) (goesRt S p may)).1 zks)).2.1.lane.toNat) (-1) else S.own },
    (takeK (S.ins.getD (ask (5 * S.n) (S.mv.getD p.toNat 0) (goesRt S p may)).1 zks)).2.1, (ask (5 * S.n) (S.mv.getD p.toNat 0) (goesRt S p may)).1, true)
  else (S, zko, 0, false)
 else (S, zko, 0, false)
def idleRt (S : RS) : Bool := S.ins.all fun K => decide (K.ws = []) && decide (K.ph = 0)
def newRt (n d : Nat) (node : Int) : RS := ⟨n, node, List.replicate (5 * n) (newK d), List.replicate (5 * n) (-1), List.replicate 5 0, List.replicate 5 0⟩
def ownerRt (S : RS) (p l : Int) : Nat × Nat × Bool :=
 if inRt S p l = true ∧ 0 ≤ S.own.getD (ixRt S p l) 0 then ((S.own.getD (ixRt S p l) 0).toNat / S.n, (S.own.getD (ixRt S p l) 0).toNat % S.n, true) else (0, 0, false)
structure ROk (S : RS) : Prop where
 n1 : 1 ≤ S.n
 n8 : S.n ≤ 8
 il : S.ins.length = 5 * S.n
 ol : S.own.length = 5 * S.n
 gl : S.gv.length = 5
 ml : S.mv.length = 5
 ik : ∀ K ∈ S.ins, KOk K
 ip : ∀ k, k < 5 * S.n → 0 ≤ (S.ins.getD k zks).port ∧ (S.ins.getD k zks).port ≤ 4 ∧ ((S.ins.getD k zks).ph = 1 → 1 ≤ (S.ins.getD k zks).port)
 oi : ∀ j, j < 5 * S.n → -1 ≤ S.own.getD j 0 ∧ (0 ≤ S.own.getD j 0 → S.own.getD j 0 < (5 * S.n : Nat) ∧ S.n ≤ j ∧ (S.ins.getD (S.own.getD j 0).toNat zks).ph = 2 ∧ (S.ins.getD (S.own.getD j 0).toNat zks).port = ((j / S.n : Nat) : Int) ∧ (S.ins.getD (S.own.getD j 0).toNat zks).lane = ((j % S.n : Nat) : Int))
 io : ∀ k, k < 5 * S.n → (S.ins.getD k zks).ph = 2 → 1 ≤ (S.ins.getD k zks).port → 0 ≤ (S.ins.getD k zks).lane ∧ (S.ins.getD k zks).lane < (S.n : Int) ∧ S.own.getD ((S.ins.getD k zks).port.toNat * S.n + (S.ins.getD k zks).lane.toNat) 0 = (k : Int)
 gt : ∀ q, q < 5 → S.gv.getD q 0 ≤ S.n
 mt : ∀ q, q < 5 → S.mv.getD q 0 ≤ 5 * S.n
end Go.Proofs.YtmmegmonmilkcaaGreatDoor
namespace Go.Proofs.YtmmegmonmilkcaaGreatDoor
theorem getDset {α : Type} (l : List α) (q p : Nat) (x d : α) (h : q < l.length) : (l.set q x).getD p d = if p = q then x else l.getD p d := by
 simp only [List.getD_eq_getElem?_getD, List.getElem?_set]
 by_cases e : q = p
 ·subst e
  simp [h]
 ·rw [if_neg e, if_neg (fun h => e h.symm)]
theorem inRt_iff {S : RS} {p l : Int} : inRt S p l = true ↔ 0 ≤ p ∧ p < 5 ∧ 0 ≤ l ∧ l < (S.n : Int) := by unfold inRt; exact decide_eq_true_iff
theorem ix_lt {S : RS} {p l : Int} (h : inRt S p l = true) : ixRt S p l < 5 * S.n := by
 obtain ⟨h1, h2, h3, h4⟩ := inRt_iff.1 h
 unfold ixRt
 have : p.toNat * S.n ≤ 4 * S.n := Nat.mul_le_mul_right _ (by omega)
 omega
theorem div_mod_eq {a b n j : Nat} (hn : 0 < n) (hb : b < n) (h : j = a * n + b) : j / n = a ∧ j % n = b := by
 subst h
 rw [Nat.mul_comm a n]
 exact ⟨by rw [Nat.mul_add_div hn, Nat.div_eq_of_lt hb, Nat.add_zero], by rw [Nat.mul_add_mod, Nat.mod_eq_of_lt hb]⟩
theorem ins_mem {S : RS} (h : ROk S) {k : Nat} (hk : k < 5 * S.n) : S.ins.getD k zks ∈ S.ins := by
 rw [List.getD_eq_getElem?_getD, List.getElem?_eq_getElem (show k < S.ins.length by rw [h.il]; exact hk)]
 exact List.getElem_mem _
theorem set_mem {α : Type} {l : List α} {q : Nat} {x y : α} (h : y ∈ l.set q x) : y ∈ l ∨ y = x := by
 rcases List.mem_or_eq_of_mem_set h with h | h
 ·exact Or.inl h
 ·exact Or.inr h
theorem putK_sm (K : KS) (x : Nat) : (putK K x).1.ph = K.ph ∧ (putK K x).1.port = K.port ∧ (putK K x).1.lane = K.lane := by
 unfold putK
 split <;> exact ⟨rfl, rfl, rfl⟩
theorem ROk.one {S : RS} (h : ROk S) {k : Nat} (hk : k < 5 * S.n) {K : KS} (ok : KOk K) (hp : 0 ≤ K.port ∧ K.port ≤ 4 ∧ (K.ph = 1 → 1 ≤ K.port))
  (same : (K.ph = (S.ins.getD k zks).ph ∧ K.port = (S.ins.getD k zks).port ∧ K.lane = (S.ins.getD k zks).lane) ∨ ((¬ (S.ins.getD k zks).ph = 2 ∨ (S.ins.getD k zks).port = 0) ∧ (K.ph = 2 → K.port = 0))) : ROk { S with ins := S.ins.set k K } := by
 have gs : ∀ p, (S.ins.set k K).getD p zks = if p = k then K else S.ins.getD p zks := fun p => getDset _ _ _ _ _ (by rw [h.il]; exact hk)
 refine ⟨h.n1, h.n8, by simp [h.il], h.ol, h.gl, h.ml, fun y hy => ?_, fun p hp' => ?_, fun j hj => ?_, fun p hp' h2 h3 => ?_, h.gt, h.mt⟩
 ·rcases set_mem hy with hy | rfl
  ·exact h.ik y hy
  ·exact ok
 ·show 0 ≤ ((S.ins.set k K).getD p zks).port ∧ _
  rw [gs]
  split
  ·exact hp
  ·exact h.ip p hp'
 ·obtain ⟨h1, h2⟩ := h.oi j hj
  refine ⟨h1, fun h0 => ?_⟩
  obtain ⟨a1, a2, a3, a4, a5⟩ := h2 h0
  refine ⟨a1, a2, ?_⟩
  show ((S.ins.set k K).getD (S.own.getD j 0).toNat zks).ph = 2 ∧ ((S.ins.set k K).getD (S.own.getD j 0).toNat zks).port = _ ∧ ((S.ins.set k K).getD (S.own.getD j 0).toNat zks).lane = _
  rw [gs]
  by_cases e : (S.own.getD j 0).toNat = k
  ·rw [if_pos e]
   rw [e] at a3 a4 a5
   rcases same with ⟨b1, b2, b3⟩ | ⟨b1 | b1, _⟩
   ·exact ⟨b1.trans a3, b2.trans a4, b3.trans a5⟩
   ·exact absurd a3 b1
   ·exfalso
    rw [b1] at a4
    have : 1 ≤ j / S.n := (Nat.le_div_iff_mul_le (by have := h.n1; omega)).2 (by omega)
    omega
  ·rw [if_neg e]
   exact ⟨a3, a4, a5⟩
 ·change ((S.ins.set k K).getD p zks).ph = 2 at h2
  change 1 ≤ ((S.ins.set k K).getD p zks).port at h3
  show 0 ≤ ((S.ins.set k K).getD p zks).lane ∧ ((S.ins.set k K).getD p zks).lane < _ ∧ S.own.getD (((S.ins.set k K).getD p zks).port.toNat * S.n + ((S.ins.set k K).getD p zks).lane.toNat) 0 = _
  rw [gs] at h2 h3 ⊢
  by_cases e : p = k
  ·subst e
   rw [if_pos rfl] at h2 h3 ⊢
   rcases same with ⟨b1, b2, b3⟩ | ⟨_, b2⟩
   ·rw [b1] at h2
    rw [b2] at h3 ⊢
    rw [b3]
    exact h.io p hp' h2 h3
   ·have := b2 h2
    omega
  ·rw [if_neg e] at h2 h3 ⊢
   exact h.io p hp' h2 h3
theorem ROk.put {S : RS} (h : ROk S) (p l : Int) {x : Nat} (hx : x < 18446744073709551616) : ROk (putRt S p l x).1 := by
 unfold putRt
 split
 ·rename_i hi
  have hk := ix_lt hi
  obtain ⟨s1, s2, s3⟩ := putK_sm (S.ins.getD (ixRt S p l) zks) x
  obtain ⟨i1, i2, i3⟩ := h.ip _ hk
  exact h.one hk ((h.ik _ (ins_mem h hk)).put hx) (by rw [s1, s2]; exact ⟨i1, i2, i3⟩) (Or.inl ⟨s1, s2, s3⟩)
 ·exact h
theorem findK_yes {K : KS} {node P : Int} (h : (findK K node P).2 = true) : K.ph = 0 ∧ (((findK K node P).1.ph = 2 ∧ (findK K node P).1.port = 0) ∨ ((findK K node P).1.ph = 1 ∧ 1 ≤ (findK K node P).1.port ∧ (findK K node P).1.port ≤ 4)) := by
 unfold findK at h ⊢
 split at h
 ·cases h
 ·rename_i x t e
  split at h
  ·rename_i h1
   rw [if_pos h1]
   split at h
   ·rename_i h2
    rw [if_pos h2]
    exact ⟨h1.1, Or.inl ⟨rfl, rfl⟩⟩
   ·rename_i h2
    rw [if_neg h2]
    split at h
    ·rename_i h3
     rw [if_pos h3]
     exact ⟨h1.1, Or.inr ⟨rfl, h3⟩⟩
    ·cases h
  ·cases h
theorem ROk.find {S : RS} (h : ROk S) (T : Fl → Int → Int) (p l ch : Int) : ROk (findRt T S p l ch).1 := by
 unfold findRt
 split
 ·rename_i hi
  have hk := ix_lt hi
  split
  ·rename_i hf
   obtain ⟨f1, f2⟩ := findK_yes hf
   refine h.one hk ((h.ik _ (ins_mem h hk)).find _ _) ?_ (Or.inr ⟨Or.inl (by omega), ?_⟩)
   ·rcases f2 with ⟨a, b⟩ | ⟨a, b, c⟩
    ·rw [a, b]; omega
    ·omega
   ·rcases f2 with ⟨a, b⟩ | ⟨a, b, c⟩
    ·exact fun _ => b
    ·exact fun e => by omega
  ·exact h
 ·exact h
theorem freeRt_iff {S : RS} {q first many i : Nat} : freeRt S q first many i = true ↔ (first ≤ i ∧ i < first + many) ∧ S.own.getD (q * S.n + i) 0 < 0 := by
 unfold freeRt
 rw [Bool.and_eq_true, decide_eq_true_iff, decide_eq_true_iff]
theorem ask_want {N l : Nat} {W : Nat → Bool} (h : (ask N l W).2 = true) : W (ask N l W).1 = true := by
 rcases ask_cases N l W with ⟨i, _, h1, _, e⟩ | ⟨_, e⟩
 ·rw [e]; exact h1
 ·rw [e] at h; cases h
theorem ROk.give {S : RS} (h : ROk S) (C : Nat → Nat × Nat) (p l : Int) : ROk (giveRt C S p l).1 := by
 have hn := h.n1
 unfold giveRt
 split
 ·rename_i hi
  have hk := ix_lt hi
  split
  ·rename_i hph
   obtain ⟨i1, i2, i3⟩ := h.ip _ hk
   have hp1 := i3 hph
   split
   ·rename_i ha
    obtain ⟨q, hq⟩ : ∃ q : Nat, (S.ins.getD (ixRt S p l) zks).port = (q : Int) := ⟨(S.ins.getD (ixRt S p l) zks).port.toNat, by omega⟩
    rw [hq, Int.toNat_natCast] at ha ⊢
    rw [hq] at i1 i2 hp1
    have hw := ask_want ha
    have hlt := ask_lt (N := S.n) (l := S.gv.getD q 0) (W := freeRt S q (C l.toNat).1 (C l.toNat).2) (by omega)
    have hle := nxtl_le (N := S.n) (l := S.gv.getD q 0) (W := freeRt S q (C l.toNat).1 (C l.toNat).2) (by omega) (h.gt q (by omega))
    generalize nxtl S.n (S.gv.getD q 0) (freeRt S q (C l.toNat).1 (C l.toNat).2) = nx at *
    generalize (ask S.n (S.gv.getD q 0) (freeRt S q (C l.toNat).1 (C l.toNat).2)).1 = i at *
    have hfree := (freeRt_iff.1 hw).2
    generalize ixRt S p l = k at *
    obtain ⟨K, hK⟩ : ∃ K, S.ins.getD k zks = K := ⟨_, rfl⟩
    rw [hK] at hph hq ⊢
    have hj : q * S.n + i < 5 * S.n := by
     have : q * S.n ≤ 4 * S.n := Nat.mul_le_mul_right _ (by omega)
     omega
    have eG : (giveK K (i : Int)).1 = { K with ph := 2, lane := (i : Int) } := by unfold giveK; rw [if_pos hph]
    rw [eG]
    have gs : ∀ m, (S.ins.set k { K with ph := 2, lane := (i : Int) }).getD m zks = if m = k then { K with ph := 2, lane := (i : Int) } else S.ins.getD m zks := fun m => getDset _ _ _ _ _ (by rw [h.il]; exact hk)
    have go : ∀ m, (S.own.set (q * S.n + i) (k : Int)).getD m 0 = if m = q * S.n + i then (k : Int) else S.own.getD m 0 := fun m => getDset _ _ _ _ _ (by rw [h.ol]; exact hj)
    have gv : ∀ m, (S.gv.set q nx).getD m 0 = if m = q then nx else S.gv.getD m 0 := fun m => getDset _ _ _ _ _ (by rw [h.gl]; omega)
    have hdm := div_mod_eq (a := q) (b := i) (n := S.n) (by omega) hlt rfl
    refine ⟨h.n1, h.n8, by simp [h.il], by simp [h.ol], by simp [h.gl], h.ml, fun y hy => ?_, fun m hm => ?_, fun j hj' => ?_, fun m hm h2 h3 => ?_, fun m hm => ?_, h.mt⟩
    ·rcases set_mem hy with hy | rfl
     ·exact h.ik y hy
     ·have hk' := (h.ik _ (ins_mem h hk)).give (i : Int)
      rw [hK, eG] at hk'
      exact hk'
    ·show 0 ≤ ((S.ins.set k _).getD m zks).port ∧ _
     rw [gs]
     by_cases e : m = k
     ·rw [if_pos e]
      show 0 ≤ K.port ∧ K.port ≤ 4 ∧ ((2 : Int) = 1 → 1 ≤ K.port)
      rw [hq]
      omega
     ·rw [if_neg e]
      exact h.ip m hm
    ·show -1 ≤ (S.own.set _ _).getD j 0 ∧ (0 ≤ (S.own.set _ _).getD j 0 → (S.own.set _ _).getD j 0 < ((5 * S.n : Nat) : Int) ∧ S.n ≤ j ∧ ((S.ins.set k _).getD ((S.own.set _ _).getD j 0).toNat zks).ph = 2 ∧ ((S.ins.set k _).getD ((S.own.set _ _).getD j 0).toNat zks).port = ((j / S.n : Nat) : Int) ∧ ((S.ins.set k _).getD ((S.own.set _ _).getD j 0).toNat zks).lane = ((j % S.n : Nat) : Int))
     rw [go]
     by_cases e : j = q * S.n + i
     ·rw [if_pos e]
      refine ⟨by omega, fun _ => ⟨by omega, ?_, ?_⟩⟩
      ·have : 1 * S.n ≤ q * S.n := Nat.mul_le_mul_right _ (by omega)
       omega
      ·rw [gs, Int.toNat_natCast, if_pos rfl, e, hdm.1, hdm.2]
       exact ⟨rfl, hq, rfl⟩
     ·rw [if_neg e]
      obtain ⟨h1, h2⟩ := h.oi j hj'
      refine ⟨h1, fun h0 => ?_⟩
      obtain ⟨a1, a2, a3, a4, a5⟩ := h2 h0
      have ne : ¬ (S.own.getD j 0).toNat = k := fun c => by rw [c, hK, hph] at a3; cases a3
      rw [gs, if_neg ne]
      exact ⟨a1, a2, a3, a4, a5⟩
    ·change ((S.ins.set k _).getD m zks).ph = 2 at h2
     change 1 ≤ ((S.ins.set k _).getD m zks).port at h3
     show 0 ≤ ((S.ins.set k _).getD m zks).lane ∧ ((S.ins.set k _).getD m zks).lane < (S.n : Int) ∧ (S.own.set _ _).getD (((S.ins.set k _).getD m zks).port.toNat * S.n + ((S.ins.set k _).getD m zks).lane.toNat) 0 = _
     rw [gs] at h2 h3 ⊢
     by_cases e : m = k
     ·rw [if_pos e]
      show 0 ≤ (i : Int) ∧ (i : Int) < (S.n : Int) ∧ (S.own.set _ _).getD (K.port.toNat * S.n + (i : Int).toNat) 0 = _
      rw [hq, Int.toNat_natCast, Int.toNat_natCast, go, if_pos rfl, e]
      exact ⟨by omega, by omega, rfl⟩
     ·rw [if_neg e] at h2 h3 ⊢
      obtain ⟨b1, b2, b3⟩ := h.io m hm h2 h3
      refine ⟨b1, b2, ?_⟩
      rw [go]
      by_cases e2 : (S.ins.getD m zks).port.toNat * S.n + (S.ins.getD m zks).lane.toNat = q * S.n + i
      ·rw [e2] at b3
       omega
      ·rw [if_neg e2]
       exact b3
    ·show (S.gv.set q nx).getD m 0 ≤ S.n
     rw [gv]
     split
     ·exact hle
     ·exact h.gt m hm
   ·exact h
  ·exact h
 ·exact h
end Go.Proofs.YtmmegmonmilkcaaGreatDoor
namespace Go.Proofs.YtmmegmonmilkcaaGreatDoor
theorem goesRt_iff {S : RS} {p : Int} {may : Int → Bool} {k : Nat} : goesRt S p may k = true ↔ (S.ins.getD k zks).ph = 2 ∧ (S.ins.getD k zks).port = p ∧ (S.ins.getD k zks).ws ≠ [] ∧ (p = 0 ∨ may (S.ins.getD k zks).lane = true) := by
 unfold goesRt
 simp only [Bool.and_eq_true, Bool.or_eq_true, decide_eq_true_iff]
theorem takeK_port {K : KS} (h2 : K.ph = 2) (hw : K.ws ≠ []) : (((takeK K).1.ph = 2 ∧ (takeK K).1.port = K.port ∧ (takeK K).1.lane = K.lane ∧ (takeK K).2.1.ends = false) ∨ ((takeK K).1.ph = 0 ∧ (takeK K).1.port = 0 ∧ ((takeK K).2.1.ends = true ∨ K.port = 0))) ∧ (takeK K).2.1.lane = K.lane ∧ (takeK K).2.1.port = K.port := by
 cases e : K.ws with
 | nil => exact absurd e hw
 | cons x t =>
  rw [takeK_at h2 e]
  unfold nextK outK
  simp only
  refine ⟨?_, trivial, trivial⟩
  by_cases h3 : x % 4 = 3
  ·rw [if_pos h3]
   exact Or.inr ⟨rfl, rfl, Or.inl (decide_eq_true h3)⟩
  ·rw [if_neg h3]
   by_cases h4 : x % 4 = 1 ∧ K.port = 0 ∧ (readR x).1.m = true
   ·rw [if_pos h4]
    exact Or.inr ⟨rfl, rfl, Or.inr h4.2.1⟩
   ·rw [if_neg h4]
    exact Or.inl ⟨h2, rfl, rfl, decide_eq_false h3⟩
theorem ROk.move {S : RS} (h : ROk S) (p : Int) (may : Int → Bool) : ROk (moveRt S p may).1 := by
 have hn := h.n1
 unfold moveRt
 split
 ·rename_i hp
  split
  ·rename_i ha
   obtain ⟨q, rfl⟩ := Int.eq_ofNat_of_zero_le hp.1
   rw [Int.toNat_natCast] at ha ⊢
   have hw := ask_want ha
   have hk := ask_lt (N := 5 * S.n) (l := S.mv.getD q 0) (W := goesRt S (q : Int) may) (by omega)
   have hle := nxtl_le (N := 5 * S.n) (l := S.mv.getD q 0) (W := goesRt S (q : Int) may) (by omega) (h.mt q (by omega))
   generalize nxtl (5 * S.n) (S.mv.getD q 0) (goesRt S (q : Int) may) = nx at *
   generalize (ask (5 * S.n) (S.mv.getD q 0) (goesRt S (q : Int) may)).1 = k at *
   obtain ⟨w1, w2, w3, -⟩ := goesRt_iff.1 hw
   have kok := (h.ik _ (ins_mem h hk)).take
   obtain ⟨i1, i2, -⟩ := h.ip k hk
   have hio := h.io k hk w1
   have hold := fun j (hj : j < 5 * S.n) (h0 : 0 ≤ S.own.getD j 0) => (h.oi j hj).2 h0
   obtain ⟨K, hK⟩ : ∃ K, S.ins.getD k zks = K := ⟨_, rfl⟩
   rw [hK] at w1 w2 w3 kok i1 i2 hio ⊢
   obtain ⟨hT, hlane, hport⟩ := takeK_port w1 w3
   rw [hlane]
   generalize (takeK K).2.1.ends = en at *
   generalize (takeK K).1 = K' at *
   have gs : ∀ m, (S.ins.set k K').getD m zks = if m = k then K' else S.ins.getD m zks := fun m => getDset _ _ _ _ _ (by rw [h.il]; exact hk)
   have gm : ∀ m, (S.mv.set q nx).getD m 0 = if m = q then nx else S.mv.getD m 0 := fun m => getDset _ _ _ _ _ (by rw [h.ml]; omega)
   have hmt : ∀ m, m < 5 → (S.mv.set q nx).getD m 0 ≤ 5 * S.n := fun m hm => by
    rw [gm]
    split
    ·exact hle
    ·exact h.mt m hm
   -- who has what, behind it
   obtain ⟨O, hO⟩ : ∃ O, (if en = true ∧ (q : Int) ≠ 0 then S.own.set (q * S.n + K.lane.toNat) (-1) else S.own) = O := ⟨_, rfl⟩
   rw [hO]
   have hol : O.length = 5 * S.n := by
    rw [← hO]
    split
    ·rw [List.length_set, h.ol]
    ·exact h.ol
   have hOc : ∀ j, O.getD j 0 = S.own.getD j 0 ∨ (O.getD j 0 = -1 ∧ en = true ∧ 1 ≤ q ∧ j = q * S.n + K.lane.toNat) := fun j => by
    rw [← hO]
    split
    ·rename_i hc
     by_cases e : j = q * S.n + K.lane.toNat
     ·by_cases hj : j < S.own.length
      ·refine Or.inr ⟨?_, hc.1, by omega, e⟩
       rw [← e, getDset _ _ _ _ _ hj, if_pos rfl]
      ·refine Or.inl ?_
       rw [List.set_eq_of_length_le (by omega)]
     ·refine Or.inl ?_
      by_cases hj : q * S.n + K.lane.toNat < S.own.length
      ·rw [getDset _ _ _ _ _ hj, if_neg e]
      ·rw [List.set_eq_of_length_le (by omega)]
    ·exact Or.inl rfl
   have hOm : K'.ph = 0 → ∀ j, j < 5 * S.n → 0 ≤ O.getD j 0 → (O.getD j 0).toNat ≠ k := fun hz j hj h0 hc => by
    rcases hOc j with e | ⟨e, -, -, -⟩
    ·rw [e] at h0 hc
     obtain ⟨a1, a2, a3, a4, a5⟩ := hold j hj h0
     rw [hc, hK] at a4 a5
     have hj1 : 1 ≤ j / S.n := (Nat.le_div_iff_mul_le (by omega)).2 (by omega)
     rcases hT with ⟨t1, -⟩ | ⟨-, -, t3⟩
     ·rw [t1] at hz; cases hz
     ·rcases t3 with t3 | t3
      ·have hq1 : 1 ≤ q := by omega
       have ej : j = q * S.n + K.lane.toNat := by
        have hm := Nat.div_add_mod j S.n
        have e1 : q = j / S.n := by omega
        rw [a5, Int.toNat_natCast, e1, Nat.mul_comm]
        exact hm.symm
       have : O.getD j 0 = -1 := by
        rw [← hO, if_pos ⟨t3, by omega⟩, ← ej, getDset _ _ _ _ _ (by rw [h.ol]; exact hj), if_pos rfl]
       omega
      ·omega
    ·omega
   refine ⟨h.n1, h.n8, by simp [h.il], hol, h.gl, by simp [h.ml], fun y hy => ?_, fun m hm => ?_, fun j hj => ?_, fun m hm h2 h3 => ?_, h.gt, hmt⟩
   ·rcases set_mem hy with hy | rfl
    ·exact h.ik y hy
    ·exact kok
   ·show 0 ≤ ((S.ins.set k K').getD m zks).port ∧ ((S.ins.set k K').getD m zks).port ≤ 4 ∧ (((S.ins.set k K').getD m zks).ph = 1 → 1 ≤ ((S.ins.set k K').getD m zks).port)
    rw [gs]
    by_cases e : m = k
    ·rw [if_pos e]
     rcases hT with ⟨t1, t2, -⟩ | ⟨t1, t2, -⟩
     ·rw [t1, t2]; omega
     ·rw [t1, t2]; omega
    ·rw [if_neg e]
     exact h.ip m hm
   ·show -1 ≤ O.getD j 0 ∧ (0 ≤ O.getD j 0 → O.getD j 0 < ((5 * S.n : Nat) : Int) ∧ S.n ≤ j ∧ ((S.ins.set k K').getD (O.getD j 0).toNat zks).ph = 2 ∧ ((S.ins.set k K').getD (O.getD j 0).toNat zks).port = ((j / S.n : Nat) : Int) ∧ ((S.ins.set k K').getD (O.getD j 0).toNat zks).lane = ((j % S.n : Nat) : Int))
    refine ⟨?_, fun h0 => ?_⟩
    ·rcases hOc j with e | ⟨e, -⟩
     ·rw [e]; exact (h.oi j hj).1
     ·omega
    ·have ne := fun hz => hOm hz j hj h0
     rcases hOc j with e | ⟨e, -⟩
     ·rw [e] at h0 ne ⊢
      obtain ⟨a1, a2, a3, a4, a5⟩ := hold j hj h0
      refine ⟨a1, a2, ?_⟩
      rw [gs]
      by_cases c : (S.own.getD j 0).toNat = k
      ·rw [if_pos c]
       rw [c, hK] at a3 a4 a5
       rcases hT with ⟨t1, t2, t3, -⟩ | ⟨t1, -⟩
       ·exact ⟨t1, t2.trans a4, t3.trans a5⟩
       ·exact absurd c (ne t1)
      ·rw [if_neg c]
       exact ⟨a3, a4, a5⟩
     ·omega
   ·change ((S.ins.set k K').getD m zks).ph = 2 at h2
    change 1 ≤ ((S.ins.set k K').getD m zks).port at h3
    show 0 ≤ ((S.ins.set k K').getD m zks).lane ∧ ((S.ins.set k K').getD m zks).lane < (S.n : Int) ∧ O.getD (((S.ins.set k K').getD m zks).port.toNat * S.n + ((S.ins.set k K').getD m zks).lane.toNat) 0 = (m : Int)
    rw [gs] at h2 h3 ⊢
    by_cases e : m = k
    ·subst e
     rw [if_pos rfl] at h2 h3 ⊢
     rcases hT with ⟨t1, t2, t3, t4⟩ | ⟨t1, -⟩
     ·rw [t2] at h3 ⊢
      rw [t3]
      obtain ⟨b1, b2, b3⟩ := hio h3
      refine ⟨b1, b2, ?_⟩
      rcases hOc (K.port.toNat * S.n + K.lane.toNat) with c | ⟨-, c, -⟩
      ·rw [c]; exact b3
      ·rw [t4] at c; cases c
     ·rw [t1] at h2; cases h2
    ·rw [if_neg e] at h2 h3 ⊢
     obtain ⟨b1, b2, b3⟩ := h.io m hm h2 h3
     refine ⟨b1, b2, ?_⟩
     rcases hOc ((S.ins.getD m zks).port.toNat * S.n + (S.ins.getD m zks).lane.toNat) with c | ⟨-, -, c1, c2⟩
     ·rw [c]; exact b3
     ·exfalso
      rw [c2] at b3
      have h3k : 1 ≤ K.port := by omega
      obtain ⟨-, -, d3⟩ := hio h3k
      rw [w2, Int.toNat_natCast] at d3
      rw [d3] at b3
      omega
  ·exact h
 ·exact h
theorem rep_zero (n q : Nat) : (List.replicate n 0).getD q 0 = 0 := by
 rw [List.getD_eq_getElem?_getD, List.getElem?_replicate]
 split <;> rfl
theorem ROk.new {n d : Nat} (node : Int) (h1 : 1 ≤ n) (h8 : n ≤ 8) : ROk (newRt n d node) := by
 have gi : ∀ k, k < 5 * n → (List.replicate (5 * n) (newK (d : Int))).getD k zks = newK (d : Int) := fun k hk => by simp [List.getD_eq_getElem?_getD, hk]
 have go : ∀ k, k < 5 * n → (List.replicate (5 * n) (-1 : Int)).getD k 0 = -1 := fun k hk => by simp [List.getD_eq_getElem?_getD, hk]
 refine ⟨h1, h8, by simp [newRt], by simp [newRt], by simp [newRt], by simp [newRt], fun K hK => ?_, fun k hk => ?_, fun j hj => ?_, fun k hk h2 _ => ?_, fun q hq => ?_, fun q hq => ?_⟩
 ·simp only [newRt, List.mem_replicate] at hK
  rw [hK.2]
  exact KOk.new _
 ·show 0 ≤ ((List.replicate (5 * n) (newK (d : Int))).getD k zks).port ∧ ((List.replicate (5 * n) (newK (d : Int))).getD k zks).port ≤ 4 ∧ (((List.replicate (5 * n) (newK (d : Int))).getD k zks).ph = 1 → 1 ≤ ((List.replicate (5 * n) (newK (d : Int))).getD k zks).port)
  rw [gi k hk]
  exact ⟨Int.le_refl 0, show (0 : Int) ≤ 4 by decide, fun h => by cases h⟩
 ·show -1 ≤ (List.replicate (5 * n) (-1 : Int)).getD j 0 ∧ (0 ≤ (List.replicate (5 * n) (-1 : Int)).getD j 0 → _)
  rw [go j hj]
  exact ⟨Int.le_refl _, fun h => by omega⟩
 ·change ((List.replicate (5 * n) (newK (d : Int))).getD k zks).ph = 2 at h2
  rw [gi k hk] at h2
  cases h2
 ·show (List.replicate 5 0).getD q 0 ≤ n
  rw [rep_zero]
  omega
 ·show (List.replicate 5 0).getD q 0 ≤ 5 * n
  rw [rep_zero]
  omega
end Go.Proofs.YtmmegmonmilkcaaGreatDoor
namespace Go.Proofs.YtmmegmonmilkcaaGreatDoor
theorem ask_only {N l k : Nat} {W : Nat → Bool} (hk : k < N) (hl : l ≤ N) (h1 : W k = true) (h2 : ∀ j, j < N → W j = true → j = k) : ask N l W = (k, true) := by
 obtain ⟨a, b⟩ := ask_yes (l := l) (W := W) (by omega) hl hk h1
 have c := h2 _ (ask_lt (l := l) (W := W) (by omega)) b
 exact Prod.ext c a
theorem moveRt_yes {S : RS} {p : Int} {may : Int → Bool} {k : Nat} (hp : 0 ≤ p ∧ p < 5) (h : ask (5 * S.n) (S.mv.getD p.toNat 0) (goesRt S p may) = (k, true)) :
  moveRt S p may = ({ S with mv := S.mv.set p.toNat (k + 1), ins := S.ins.set k (takeK (S.ins.getD k zks)).1, own := if (takeK (S.ins.getD k zks)).2.1.ends = true ∧ p ≠ 0 then S.own.set (p.toNat * S.n + (takeK (S.ins.getD k zks)).2.1.lane.toNat) (-1) else S.own }, (takeK (S.ins.getD k zks)).2.1, k, true) := by
 unfold moveRt nxtl
 rw [if_pos hp]
 simp only [h, if_true]
def loneR (n d : Nat) (node : Int) (k : Nat) (K : KS) (own : List Int) (gv mv : List Nat) : RS := ⟨n, node, (List.replicate (5 * n) (newK (d : Int))).set k K, own, gv, mv⟩
section
variable {n d : Nat} {node : Int} {k : Nat} {K : KS} {own : List Int} {gv mv : List Nat}
theorem lone_at (hk : k < 5 * n) (j : Nat) (hj : j < 5 * n) : (loneR n d node k K own gv mv).ins.getD j zks = if j = k then K else newK (d : Int) := by
 show ((List.replicate (5 * n) (newK (d : Int))).set k K).getD j zks = _
 rw [getDset _ _ _ _ _ (by rw [List.length_replicate]; exact hk)]
 by_cases e : j = k
 ·rw [if_pos e, if_pos e]
 ·rw [if_neg e, if_neg e, List.getD_eq_getElem?_getD, List.getElem?_replicate, if_pos hj]
  rfl
theorem lone_set (K' : KS) : (loneR n d node k K own gv mv).ins.set k K' = (loneR n d node k K' own gv mv).ins := by
 show ((List.replicate (5 * n) (newK (d : Int))).set k K).set k K' = _
 rw [List.set_set]
 rfl
theorem lone_new (hk : k < 5 * n) : newRt n d node = loneR n d node k (newK (d : Int)) (List.replicate (5 * n) (-1)) (List.replicate 5 0) (List.replicate 5 0) := by
 unfold newRt loneR
 congr 1
 refine List.ext_getElem? fun j => ?_
 rw [List.getElem?_set, List.getElem?_replicate, List.length_replicate]
 by_cases e : k = j
 ·subst e
  rw [if_pos rfl, if_pos hk]
 ·rw [if_neg e]
theorem lone_in {p l : Int} : inRt (loneR n d node k K own gv mv) p l = decide (0 ≤ p ∧ p < 5 ∧ 0 ≤ l ∧ l < (n : Int)) := rfl
theorem lone_put (hk : k < 5 * n) {p l : Int} (hi : inRt (loneR n d node k K own gv mv) p l = true) (hx : ixRt (loneR n d node k K own gv mv) p l = k) (x : Nat) :
  putRt (loneR n d node k K own gv mv) p l x = (loneR n d node k (putK K x).1 own gv mv, (putK K x).2) := by
 unfold putRt
 rw [if_pos hi, hx, lone_at hk k hk, if_pos rfl, lone_set]
 rfl
theorem lone_find (hk : k < 5 * n) {p l : Int} (hi : inRt (loneR n d node k K own gv mv) p l = true) (hx : ixRt (loneR n d node k K own gv mv) p l = k) (T : Fl → Int → Int) (ch : Int) :
  findRt T (loneR n d node k K own gv mv) p l ch = if (findK K node (toldRt T K ch)).2 = true then (loneR n d node k (findK K node (toldRt T K ch)).1 own gv mv, true) else (loneR n d node k K own gv mv, false) := by
 unfold findRt
 rw [if_pos hi, hx, lone_at hk k hk, if_pos rfl, lone_set]
 rfl
theorem lone_goes (hk : k < 5 * n) (p : Int) (may : Int → Bool) {j : Nat} (hj : j < 5 * n) (h : goesRt (loneR n d node k K own gv mv) p may j = true) : j = k := by
 rw [goesRt_iff, lone_at hk j hj] at h
 by_cases e : j = k
 ·exact e
 ·rw [if_neg e] at h
  have := h.1
  simp [newK] at this
theorem lone_goes_k (hk : k < 5 * n) (p : Int) (may : Int → Bool) : goesRt (loneR n d node k K own gv mv) p may k = true ↔ K.ph = 2 ∧ K.port = p ∧ K.ws ≠ [] ∧ (p = 0 ∨ may K.lane = true) := by
 rw [goesRt_iff, lone_at hk k hk, if_pos rfl]
theorem lone_move (hk : k < 5 * n) {p : Int} (hp : 0 ≤ p ∧ p < 5) {may : Int → Bool} (hm : mv.getD p.toNat 0 ≤ 5 * n) (h2 : K.ph = 2) (h3 : K.port = p) (h4 : K.ws ≠ []) (h5 : p = 0 ∨ may K.lane = true) :
  ∃ own' mv', moveRt (loneR n d node k K own gv mv) p may = (loneR n d node k (takeK K).1 own' gv mv', (takeK K).2.1, k, true) ∧ mv'.getD p.toNat 0 ≤ 5 * n ∧ mv'.length = mv.length ∧ own'.length = own.length ∧
   own' = (if (takeK K).2.1.ends = true ∧ p ≠ 0 then own.set (p.toNat * n + (takeK K).2.1.lane.toNat) (-1) else own) := by
 have ha : ask (5 * n) (mv.getD p.toNat 0) (goesRt (loneR n d node k K own gv mv) p may) = (k, true) := ask_only hk hm ((lone_goes_k hk p may).2 ⟨h2, h3, h4, h5⟩) fun j hj => lone_goes hk p may hj
 refine ⟨_, mv.set p.toNat (k + 1), ?_, ?_, List.length_set .., ?_, rfl⟩
 ·rw [moveRt_yes hp ha, lone_at hk k hk, if_pos rfl, lone_set]
  rfl
 ·by_cases e : p.toNat < mv.length
  ·rw [getDset _ _ _ _ _ e, if_pos rfl]
   omega
  ·rw [List.set_eq_of_length_le (by omega)]
   exact hm
 ·split
  ·exact List.length_set ..
  ·rfl
end
end Go.Proofs.YtmmegmonmilkcaaGreatDoor
namespace Go.Proofs.YtmmegmonmilkcaaGreatDoor
end Go.Proofs.YtmmegmonmilkcaaGreatDoor
namespace Go.Proofs.YtmmegmonmilkcaaGreatDoor
section
variable {n d : Nat} {node : Int} {k1 k2 : Nat} {K1 K2 : KS} {own : List Int} {gv mv : List Nat}
end
end Go.Proofs.YtmmegmonmilkcaaGreatDoor
