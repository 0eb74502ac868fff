/-
  The law of what comes: its plain part.
-/
import Derived.Test.YtoejpngdkcnnhaaNcPl
import Derived.Test.YtoejpngdkcnnhaaNcNx
namespace Go.Proofs.Ytoejpngdkcnnhaa
open Go.RowKit

/-- Parcels of one Head each, the k-th of source k, of number 0. -/
structure Five (Pf : Nat → Pc) (N : Nat) : Prop where
  n5 : N ≤ 5
  ok : ∀ k, k < N → (Pf k).okB = true
  one : ∀ k, k < N → (Pf k).hs.length = 1
  src : ∀ k, k < N → (Pf k).s = (k : Int)
  seq : ∀ k, k < N → ((Pf k).hs.getD 0 (0, 0)).2 = 0
def wsF (Pf : Nat → Pc) (N k : Nat) : List Nat := if k < N then (Pf k).ws else []
def pkF (Pf : Nat → Pc) (k : Nat) : I.Pk := toI (onePk (Pf k))
section
variable {Pf : Nat → Pc} {N : Nat}
theorem Five.pk (h : Five Pf N) {k : Nat} (hk : k < N) : (pkF Pf k).s = (k : Int) ∧ (pkF Pf k).q = 0 := ⟨h.src k hk, h.seq k hk⟩
/-- The inbox when these have come. -/
def bxC (Pf : Nat → Pc) (n : Nat) (D : List Nat) : I.IS := ⟨n, [], D.map (pkF Pf), fun _ => 0⟩
theorem bxC_come (h : Five Pf N) {n : Nat} {D : List Nat} (hD : ∀ d ∈ D, d < N) {k : Nat} (hk : k < N) (hn : k ∉ D) : I.comeE (bxC Pf n D) (pkF Pf k) = 0 ∧ I.comeS (bxC Pf n D) (pkF Pf k) = bxC Pf n (D ++ [k]) := by
  have hin : I.inR (pkF Pf k) := by
    have := h.pk hk
    have := h.n5
    unfold I.inR
    omega
  have hh : I.has (bxC Pf n D).W (pkF Pf k) = false := by
    rw [I.has_not]
    intro r hr hc
    obtain ⟨d, hd, rfl⟩ := List.mem_map.1 hr
    have h1 := (h.pk (hD d hd)).1
    have h2 := (h.pk hk).1
    have : d = k := by omega
    exact hn (this ▸ hd)
  unfold I.comeE I.comeS
  rw [if_pos hin, if_pos hin, hh]
  refine ⟨rfl, ?_⟩
  simp [bxC]
/-- The inbox when the first i sources' packets have been told and received. -/
def bxD (Pf : Nat → Pc) (n : Nat) (D : List Nat) (i : Nat) : I.IS := ⟨n, [], (D.filter fun d => decide (i ≤ d)).map (pkF Pf), fun s => if 0 ≤ s ∧ s < (i : Int) then 1 else 0⟩
theorem bxD_zero (n : Nat) (D : List Nat) : bxD Pf n D 0 = bxC Pf n D := by
  unfold bxD bxC
  have e1 : (D.filter fun d => decide (0 ≤ d)) = D := by simp
  rw [e1]
  congr 1
  funext s
  rw [if_neg (by omega)]
theorem bxD_tell (h : Five Pf N) {n : Nat} (hn : 1 ≤ n) {D : List Nat} (hD : ∀ d, d ∈ D ↔ d < N) (hnd : D.Nodup) {i : Nat} (hi : i < N) :
    I.tellB (bxD Pf n D i) = true ∧ I.recvV (I.tellS (bxD Pf n D i)) = pkF Pf i ∧ I.recvE (I.tellS (bxD Pf n D i)) = 0 ∧ I.recvS (I.tellS (bxD Pf n D i)) = bxD Pf n D (i + 1) ∧ (bxD Pf n D (i + 1)).nx (i : Int) = 1 := by
  have hm : pkF Pf i ∈ (bxD Pf n D i).W := List.mem_map.2 ⟨i, List.mem_filter.2 ⟨(hD i).2 hi, by simp⟩, rfl⟩
  have hap : I.Apart (bxD Pf n D i).W := by
    unfold I.Apart bxD
    rw [List.pairwise_map]
    refine ((hnd.filter _)).imp_of_mem ?_
    intro x y hx hy hne hc
    have h1 := (h.pk ((hD x).1 (List.mem_filter.1 hx).1)).1
    have h2 := (h.pk ((hD y).1 (List.mem_filter.1 hy).1)).1
    exact hne (by have := hc.1; omega)
  have hr : I.rdy (bxD Pf n D i) = some (pkF Pf i) := by
    refine I.pick_uniq hap hm ?_ ?_
    · rw [(h.pk hi).1, (h.pk hi).2]
      show (0 : Int) = if 0 ≤ (i : Int) ∧ (i : Int) < (i : Int) then 1 else 0
      rw [if_neg (by omega)]
    · intro r hr _
      obtain ⟨d, hd, rfl⟩ := List.mem_map.1 hr
      obtain ⟨hd1, hd2⟩ := List.mem_filter.1 hd
      rw [(h.pk hi).1, (h.pk ((hD d).1 hd1)).1]
      simp at hd2
      omega
  have hL : (bxD Pf n D i).L.length < (bxD Pf n D i).n := by show 0 < n; omega
  have ht : I.tellS (bxD Pf n D i) = I.told (bxD Pf n D i) (pkF Pf i) := by
    unfold I.tellS
    rw [if_pos hL, hr]
  refine ⟨?_, ?_, ?_, ?_, ?_⟩
  · unfold I.tellB
    rw [hr, decide_eq_true hL]
    rfl
  · rw [ht]; rfl
  · rw [ht]; rfl
  · rw [ht]
    unfold I.recvS I.told bxD
    simp only [List.nil_append, List.tail_cons]
    congr 1
    · unfold I.strike
      rw [List.filter_map, List.filter_filter]
      congr 1
      apply List.filter_congr
      intro d hd
      have h1 := h.pk ((hD d).1 hd)
      have h2 := h.pk hi
      simp only [Function.comp, h1.1, h1.2, h2.1, h2.2]
      by_cases e1 : d = i
      · subst e1
        simp
      · have e2 : ((d : Int) == (i : Int)) = false := by rw [beq_eq_false_iff_ne]; omega
        rw [e2]
        simp only [Bool.false_and, Bool.not_false, Bool.true_and]
        by_cases e3 : i ≤ d
        · rw [decide_eq_true e3, decide_eq_true (by omega)]
        · rw [decide_eq_false e3, decide_eq_false (by omega)]
    · funext s
      unfold I.upd
      rw [(h.pk hi).1, (h.pk hi).2]
      by_cases e1 : s = (i : Int)
      · rw [if_pos e1, if_pos (by omega)]; decide
      · rw [if_neg e1]
        show (if 0 ≤ s ∧ s < (i : Int) then (1 : Int) else 0) = if 0 ≤ s ∧ s < ((i + 1 : Nat) : Int) then 1 else 0
        by_cases e2 : 0 ≤ s ∧ s < (i : Int)
        · rw [if_pos e2, if_pos (by omega)]
        · rw [if_neg e2, if_neg (by omega)]
  · show (if 0 ≤ (i : Int) ∧ (i : Int) < ((i + 1 : Nat) : Int) then (1 : Int) else 0) = 1
    rw [if_pos (by omega)]
theorem bxD_end (n : Nat) {D : List Nat} (hD : ∀ d ∈ D, d < N) : (bxD Pf n D N).W = [] := by
  unfold bxD
  have : (D.filter fun d => decide (N ≤ d)) = [] := by
    rw [List.filter_eq_nil_iff]
    intro d hd
    have := hD d hd
    simp
    omega
  simp only [this, List.map_nil]
theorem nodup_len {D : List Nat} (hD : ∀ d, d ∈ D ↔ d < N) (hnd : D.Nodup) : D.length = N := by
  have h1 : D.Perm (List.range N) := (List.perm_ext_iff_of_nodup hnd List.nodup_range).2 fun d => by rw [hD, List.mem_range]
  rw [h1.length_eq, List.length_range]
/-- How many words of each have come; what has begun by then; which are whole. -/
structure Cnt (Pf : Nat → Pc) (N : Nat) (c : Nat → Nat) (js : Nat → JS) (D : List Nat) : Prop where
  le : ∀ k, k < 5 → c k ≤ (wsF Pf N k).length
  jv : ∀ k, k < 5 → js (k * 8 + 0) = sj takeR (wsF Pf N k) (c k)
  oth : ∀ k, k < 40 → k % 8 ≠ 0 → (js k).b = false
  mem : ∀ d, d ∈ D ↔ d < N ∧ c d = (wsF Pf N d).length
  nd : D.Nodup
theorem Cnt.start (h : Five Pf N) : Cnt Pf N (fun _ => 0) (fun _ => zjs) [] := by
  refine ⟨fun k _ => Nat.zero_le _, fun k _ => (sj_zero ..).symm, fun _ _ _ => rfl, fun d => ⟨fun hd => (by cases hd), fun ⟨h1, h2⟩ => ?_⟩, List.nodup_nil⟩
  have h3 := ws_len (Pf d)
  have h4 := h.one d h1
  unfold wsF at h2
  rw [if_pos h1] at h2
  omega
def bump (c : Nat → Nat) (k : Nat) : Nat → Nat := fun j => if j = k then c k + 1 else c j
theorem Cnt.step (h : Five Pf N) {n : Nat} {c : Nat → Nat} {js : Nat → JS} {D : List Nat} (C : Cnt Pf N c js D) {k W : Nat} (hk : k < 5) (hW : (wsF Pf N k)[c k]? = some W) :
    ∃ D', tkE (bxC Pf n D) (js (k * 8 + 0)) W = 0 ∧ tkS (bxC Pf n D) (js (k * 8 + 0)) W = bxC Pf n D' ∧ Cnt Pf N (bump c k) (updS js (k * 8 + 0) (takeR (js (k * 8 + 0)) W).1) D' := by
  have hlt := (List.getElem?_eq_some_iff.1 hW).1
  have hN : k < N := by
    by_cases e : k < N
    · exact e
    · unfold wsF at hlt; rw [if_neg e] at hlt; exact absurd hlt (Nat.not_lt_zero _)
  have hw : wsF Pf N k = (Pf k).ws := by unfold wsF; rw [if_pos hN]
  rw [C.jv k hk]
  rw [hw] at hW hlt ⊢
  obtain ⟨s1, s2, s3, s4⟩ := tk_step (h.ok k hN) (h.one k hN) hW
  have hkD : k ∉ D := fun hd => by
    have := ((C.mem k).1 hd).2
    rw [hw] at this
    omega
  have hnext : ∀ D', (∀ d, d ∈ D' ↔ d < N ∧ bump c k d = (wsF Pf N d).length) → D'.Nodup → Cnt Pf N (bump c k) (updS js (k * 8 + 0) (takeR (sj takeR (Pf k).ws (c k)) W).1) D' := fun D' h1 h2 => by
    refine ⟨fun j hj => ?_, fun j hj => ?_, fun j hj hm => ?_, h1, h2⟩
    · unfold bump
      by_cases e : j = k
      · subst e; rw [if_pos rfl, hw]; omega
      · rw [if_neg e]; exact C.le j hj
    · unfold updS bump
      by_cases e : j = k
      · subst e
        rw [if_pos rfl, if_pos rfl, s1, hw]
      · rw [if_neg (by omega), if_neg e]
        exact C.jv j hj
    · unfold updS
      rw [if_neg (by omega)]
      exact C.oth j hj hm
  by_cases hl : c k + 1 = (Pf k).ws.length
  · rw [decide_eq_true hl] at s3
    obtain ⟨b1, b2⟩ := bxC_come h (n := n) (fun d hd => ((C.mem d).1 hd).1) hN hkD
    refine ⟨D ++ [k], ?_, ?_, hnext _ (fun d => ?_) ?_⟩
    · unfold tkE; rw [if_pos s3, s4 hl]; exact b1
    · unfold tkS; rw [if_pos s3, s4 hl]; exact b2
    · rw [List.mem_append, C.mem, List.mem_singleton]
      unfold bump
      by_cases e : d = k
      · subst e
        rw [if_pos rfl, hw]
        exact ⟨fun _ => ⟨hN, hl⟩, fun _ => Or.inr rfl⟩
      · rw [if_neg e]
        exact ⟨fun hx => hx.elim id fun hy => absurd hy e, fun hx => Or.inl hx⟩
    · rw [List.nodup_append]
      refine ⟨C.nd, by simp, fun x hx y hy hxy => ?_⟩
      rw [List.mem_singleton.1 hy] at hxy
      exact hkD (hxy ▸ hx)
  · rw [decide_eq_false hl] at s3
    refine ⟨D, ?_, ?_, hnext _ (fun d => ?_) C.nd⟩
    · unfold tkE; rw [s3, if_neg (by simp)]; exact s2
    · unfold tkS; rw [s3, if_neg (by simp)]
    · rw [C.mem]
      unfold bump
      by_cases e : d = k
      · subst e
        rw [if_pos rfl, hw]
        exact ⟨fun hx => by omega, fun hx => by omega⟩
      · rw [if_neg e]
/-- When all have come nothing has begun any more. -/
theorem Cnt.done (h : Five Pf N) {c : Nat → Nat} {js : Nat → JS} {D : List Nat} (C : Cnt Pf N c js D) (hall : ∀ k, k < 5 → c k = (wsF Pf N k).length) : (∀ k, k < 40 → (js k).b = false) ∧ ∀ d, d ∈ D ↔ d < N := by
  have h5 := h.n5
  refine ⟨fun k hk => ?_, fun d => ?_⟩
  · by_cases hm : k % 8 = 0
    · have e : k = (k / 8) * 8 + 0 := by omega
      rw [e, C.jv (k / 8) (by omega), hall (k / 8) (by omega), (sj_all (T := takeR) (L := wsF Pf N (k / 8))).1]
      by_cases hN : k / 8 < N
      · have hw : wsF Pf N (k / 8) = (Pf (k / 8)).ws := by unfold wsF; rw [if_pos hN]
        rw [hw, (ws_run takeR_tells (h.ok _ hN) (h.one _ hN)).2.1]
      · have hw : wsF Pf N (k / 8) = [] := by unfold wsF; rw [if_neg hN]
        rw [hw]
        rfl
    · exact C.oth k hk hm
  · rw [C.mem]
    exact ⟨fun hx => hx.1, fun hx => ⟨hx, hall d (by omega)⟩⟩
theorem Cnt.small {c : Nat → Nat} {js : Nat → JS} {D : List Nat} (C : Cnt Pf N c js D) {k : Nat} (hk : k < 5) (hl : (wsF Pf N k).length ≤ 1000) : (js (k * 8 + 0)).x.size ≤ 900000 := by
  rw [C.jv k hk]
  have := sj_x (L := wsF Pf N k) takeR_six (c k)
  have := C.le k hk
  omega
end
end Go.Proofs.Ytoejpngdkcnnhaa
