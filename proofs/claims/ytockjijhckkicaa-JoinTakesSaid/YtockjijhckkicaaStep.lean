/-
  A word's kind, and what is told with it: plain mathematics.
-/
import Derived.Test.YtockjijhckkicaaLives
import Derived.Test.YtockjijhckkicaaSameP
namespace Go.Proofs.Ytockjijhckkicaa
open Go.RowKit

theorem wj_lt (ps : List Pc) (k : Nat) : ∀ x ∈ wj ps k, x < 18446744073709551616 := by
  intro x hx
  unfold wj at hx
  obtain ⟨p, _, hp⟩ := List.mem_flatMap.1 hx
  exact ws_lt _ x hp
/-- A word without an error is its flit's. -/
theorem readR_kind {W : Nat} (h : (readR W).2 = 0) : ((W % 4 : Nat) : Int) = (readR W).1.k := by
  obtain ⟨h1, h2⟩ := readR_ok h
  have h3 : (readR W).1.word = W := by
    unfold Fl.wordR at h1
    rw [if_pos h2] at h1
    exact congrArg Prod.fst h1
  have := word_kind h2
  rw [h3] at this
  exact this
theorem takeF_err {j : JS} {f : Fl} {e : Int} (h : (takeF j f e).2.2.2 = 0) : e = 0 := by
  unfold takeF at h
  by_cases he : ¬ e = 0
  · rw [if_pos he] at h
    exact h
  · omega
theorem kind_of {T : TakeFn} {L : List Nat} (h : okR T zjs L) {k W : Nat} (hk : L[k]? = some W) {f : Fl} {e : Int} (HT : T (sj T L k) W = takeF (sj T L k) f e) (hkd : e = 0 → ((W % 4 : Nat) : Int) = f.k) : (sj T L (k + 1)).b = decide (¬ W % 4 = 3) ∧ (kp T L (k + 1)).length = (kp T L k).length + if W % 4 = 3 then 1 else 0 := by
  have h0 := ok_at h hk
  obtain ⟨s1, s2⟩ := sj_step (T := T) hk
  obtain ⟨t1, t2⟩ := ok_step (T := T) HT h0
  rw [HT] at h0
  have hkd := hkd (takeF_err h0)
  have e3 : f.k = 3 ↔ W % 4 = 3 := by omega
  unfold stp at t1
  unfold pkt at t2
  rw [s1, s2, List.length_append, t1, t2]
  refine ⟨by simp [e3], ?_⟩
  by_cases h3 : W % 4 = 3
  · rw [if_pos h3, if_pos (e3.2 h3)]
  · rw [if_neg h3, if_neg (fun e => h3 (e3.1 e))]
theorem takeR_eq (j : JS) (W : Nat) : takeR j W = takeF j (readR W).1 (readR W).2 := by unfold takeR; rfl
theorem kind_at {L : List Nat} (h : okR takeR zjs L) {k W : Nat} (hk : L[k]? = some W) : (sj takeR L (k + 1)).b = decide (¬ W % 4 = 3) ∧ (kp takeR L (k + 1)).length = (kp takeR L k).length + if W % 4 = 3 then 1 else 0 := kind_of h hk (takeR_eq _ _) readR_kind
/-- The packets so far are the first ones. -/
theorem kp_pre (T : TakeFn) (L : List Nat) (k : Nat) : (kp T L k).length ≤ (pcks T zjs L).length ∧ (pcks T zjs L).take (kp T L k).length = kp T L k := by
  have e : pcks T zjs L = kp T L k ++ pcks T (run T zjs (L.take k)) (L.drop k) := by
    unfold kp
    rw [← pcks_app, List.take_append_drop]
  rw [e]
  exact ⟨by rw [List.length_append]; omega, List.take_left⟩
theorem kcs_take (l : List Pk) (k : Nat) : ∃ m, kcs l = kcs (l.take k) ++ m := ⟨kcs (l.drop k), by rw [← kcs_app, List.take_append_drop]⟩
theorem Rd.ktake {w : World} {a : Option Addr} {l : List Pk} (h : Rd w a (kcs l)) (k : Nat) : Rd w a (kcs (l.take k)) := by
  intro j v hj
  obtain ⟨m, hm⟩ := kcs_take l k
  refine h j v ?_
  rw [hm, List.getElem?_append_left (List.getElem?_eq_some_iff.mp hj).1]
  exact hj
end Go.Proofs.Ytockjijhckkicaa
