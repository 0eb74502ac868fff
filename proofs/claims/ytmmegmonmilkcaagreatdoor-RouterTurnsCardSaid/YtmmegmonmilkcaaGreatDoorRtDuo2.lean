/-
  Two parcels in a router: words put, ways found, lanes given, words moved by turns (plain mathematics).
-/
import Derived.Test.YtmmegmonmilkcaaGreatDoorRtBase
import Derived.Test.YtmmegmonmilkcaaGreatDoorRtThr
namespace Go.Proofs.YtmmegmonmilkcaaGreatDoor

theorem giveRt_yes {C : Nat → Nat × Nat} {S : RS} {p l : Int} {k q i : Nat} {K : KS} (hin : inRt S p l = true) (hix : ixRt S p l = k) (hK : S.ins.getD k zks = K) (h1 : K.ph = 1) (hq : K.port.toNat = q)
    (ha : ask S.n (S.gv.getD q 0) (freeRt S q (C l.toNat).1 (C l.toNat).2) = (i, true)) :
    giveRt C S p l = ({ S with gv := S.gv.set q (i + 1), own := S.own.set (q * S.n + i) (k : Int), ins := S.ins.set k (giveK K (i : Int)).1 }, true) := by
  unfold giveRt nxtl
  rw [if_pos hin, hix, hK, if_pos h1, hq]
  simp only [ha, if_true]
section
variable {n d : Nat} {node : Int} {k1 k2 : Nat} {K1 K2 : KS} {own : List Int} {gv mv : List Nat}
theorem duo_new (h1 : k1 < 5 * n) (h2 : k2 < 5 * n) : newRt n d node = duoR n d node k1 k2 (newK (d : Int)) (newK (d : Int)) (List.replicate (5 * n) (-1)) (List.replicate 5 0) (List.replicate 5 0) := by
  unfold newRt duoR
  congr 1
  refine List.ext_getElem? fun j => ?_
  simp only [List.getElem?_set, List.length_set, List.length_replicate, List.getElem?_replicate]
  by_cases e2 : k2 = j
  · subst e2
    simp [h2]
  · rw [if_neg e2]
    by_cases e1 : k1 = j
    · subst e1
      simp [h1]
    · rw [if_neg e1]
theorem duo_in {p l : Int} : inRt (duoR n d node k1 k2 K1 K2 own gv mv) p l = decide (0 ≤ p ∧ p < 5 ∧ 0 ≤ l ∧ l < (n : Int)) := rfl
theorem duo_put1 (h1 : k1 < 5 * n) (h2 : k2 < 5 * n) (hne : k1 ≠ k2) {p l : Int} (hi : inRt (duoR n d node k1 k2 K1 K2 own gv mv) p l = true) (hx : ixRt (duoR n d node k1 k2 K1 K2 own gv mv) p l = k1) (x : Nat) :
    putRt (duoR n d node k1 k2 K1 K2 own gv mv) p l x = (duoR n d node k1 k2 (putK K1 x).1 K2 own gv mv, (putK K1 x).2) := by
  unfold putRt
  rw [if_pos hi, hx, duo_at h1 h2 k1 h1, if_neg hne, if_pos rfl, duo_set1 hne]
  rfl
theorem duo_put2 (h1 : k1 < 5 * n) (h2 : k2 < 5 * n) {p l : Int} (hi : inRt (duoR n d node k1 k2 K1 K2 own gv mv) p l = true) (hx : ixRt (duoR n d node k1 k2 K1 K2 own gv mv) p l = k2) (x : Nat) :
    putRt (duoR n d node k1 k2 K1 K2 own gv mv) p l x = (duoR n d node k1 k2 K1 (putK K2 x).1 own gv mv, (putK K2 x).2) := by
  unfold putRt
  rw [if_pos hi, hx, duo_at h1 h2 k2 h2, if_pos rfl, duo_set2]
  rfl
theorem duo_find1 (h1 : k1 < 5 * n) (h2 : k2 < 5 * n) (hne : k1 ≠ k2) {p l : Int} (hi : inRt (duoR n d node k1 k2 K1 K2 own gv mv) p l = true) (hx : ixRt (duoR n d node k1 k2 K1 K2 own gv mv) p l = k1) (T : Fl → Int → Int) (ch : Int) {K : KS}
    (hf : findK K1 node (toldRt T K1 ch) = (K, true)) : findRt T (duoR n d node k1 k2 K1 K2 own gv mv) p l ch = (duoR n d node k1 k2 K K2 own gv mv, true) := by
  unfold findRt
  rw [if_pos hi, hx, duo_at h1 h2 k1 h1, if_neg hne, if_pos rfl]
  rw [show findK K1 (duoR n d node k1 k2 K1 K2 own gv mv).node (toldRt T K1 ch) = (K, true) from hf]
  simp only [if_true, duo_set1 hne]
  rfl
theorem duo_find2 (h1 : k1 < 5 * n) (h2 : k2 < 5 * n) {p l : Int} (hi : inRt (duoR n d node k1 k2 K1 K2 own gv mv) p l = true) (hx : ixRt (duoR n d node k1 k2 K1 K2 own gv mv) p l = k2) (T : Fl → Int → Int) (ch : Int) {K : KS}
    (hf : findK K2 node (toldRt T K2 ch) = (K, true)) : findRt T (duoR n d node k1 k2 K1 K2 own gv mv) p l ch = (duoR n d node k1 k2 K1 K own gv mv, true) := by
  unfold findRt
  rw [if_pos hi, hx, duo_at h1 h2 k2 h2, if_pos rfl]
  rw [show findK K2 (duoR n d node k1 k2 K1 K2 own gv mv).node (toldRt T K2 ch) = (K, true) from hf]
  simp only [if_true, duo_set2]
  rfl
theorem duo_idle (hw1 : K1.ws = []) (hp1 : K1.ph = 0) (hw2 : K2.ws = []) (hp2 : K2.ph = 0) : idleRt (duoR n d node k1 k2 K1 K2 own gv mv) = true := by
  unfold idleRt
  rw [List.all_eq_true]
  intro x hx
  rcases set_mem (show x ∈ ((List.replicate (5 * n) (newK (d : Int))).set k1 K1).set k2 K2 from hx) with h | rfl
  · rcases set_mem h with h | rfl
    · obtain rfl := List.eq_of_mem_replicate h
      rfl
    · rw [hw1, hp1]
      rfl
  · rw [hw2, hp2]
    rfl
end
/-- The lane of a parcel for one in phase 2, by the port o and the lane ln, i of whose words went out. -/
def waK (L : List Nat) (o ln : Int) (i : Nat) : KS := if i < L.length then ⟨64, L.drop i, 2, o, ln, false⟩ else ⟨64, [], 0, 0, 0, false⟩
section
variable {L : List Nat} {D : Nat → Int}
theorem waK_step (h : Wds L 1 D) {o ln : Int} (hz : o = 0 → ln = 0) {i : Nat} (hi : i < L.length) : takeK (waK L o ln i) = (waK L o ln (i + 1), ⟨o, ln, L.getD i 0, false, decide (i + 1 = L.length)⟩, 0) := by
  by_cases e : o = 0
  · obtain rfl := hz e
    subst e
    have := goK_step h 0 hi
    rw [goK_at _ hi] at this
    unfold waK
    rw [if_pos hi, this]
    by_cases e2 : i + 1 < L.length
    · rw [goK_at _ e2, if_pos e2]
    · rw [if_neg e2, show i + 1 = L.length by omega, goK_end]
  · have := pass_step (r := 64) h [] (ln := ln) e hi
    unfold passK at this
    unfold waK
    rw [if_pos hi, List.append_nil] at this
    rw [if_pos hi, this]
    by_cases e2 : i + 1 < L.length
    · rw [if_pos e2, if_pos e2, List.append_nil]
    · rw [if_neg e2, if_neg e2]
theorem waK_at (o ln : Int) {i : Nat} (hi : i < L.length) : waK L o ln i = ⟨64, L.drop i, 2, o, ln, false⟩ := by unfold waK; rw [if_pos hi]
theorem waK_end (o ln : Int) : waK L o ln L.length = ⟨64, [], 0, 0, 0, false⟩ := by unfold waK; rw [if_neg (by omega)]
theorem waK_sends (o ln : Int) {i : Nat} (hi : i ≤ L.length) (p : Int) {may : Int → Bool} (hm : p = 0 ∨ may ln = true) : sendsK (waK L o ln i) p may = (decide (i < L.length) && decide (o = p)) := by
  by_cases e : i < L.length
  · rw [waK_at _ _ e]
    unfold sendsK
    have h0 : (decide (p = 0) || may ln) = true := by
      rcases hm with h | h
      · rw [decide_eq_true h]; rfl
      · rw [h, Bool.or_true]
    show (true && (decide (o = p) && (decide (L.drop i ≠ []) && (decide (p = 0) || may ln)))) = _
    rw [h0, decide_eq_true (drop_ne e), decide_eq_true e, Bool.and_true, Bool.and_true]
  · rw [show i = L.length by omega, waK_end]
    unfold sendsK
    rw [decide_eq_false (Nat.lt_irrefl _)]
    rfl
end
end Go.Proofs.YtmmegmonmilkcaaGreatDoor
