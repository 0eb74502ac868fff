/-
  A packet's words and its work, as plain mathematics (layer 9).
-/
import Derived.Test.YtaohimmmhpmgdaaDoorWPlain
import Derived.Test.YtaohimmmhpmgdaaDoorSmall
namespace Go.Proofs.YtaohimmmhpmgdaaDoor

/-- How many words so many bytes have: one at least. -/
def tl (b : Int) : Int := if b ≤ 6 then 1 else (b + 5) / 6
def okW (h b : Int) : Bool := decide (1 ≤ h) && (decide (0 ≤ b) && decide (b ≤ 64))
def wds (h b : Int) : Int := if okW h b = true then h + tl b else -1
theorem okW_iff (h b : Int) : okW h b = true ↔ 1 ≤ h ∧ 0 ≤ b ∧ b ≤ 64 := by
  unfold okW
  simp only [Bool.and_eq_true, decide_eq_true_eq]
theorem tl_in {b : Int} (h0 : 0 ≤ b) (h1 : b ≤ 64) : 1 ≤ tl b ∧ tl b ≤ 11 ∧ b ≤ 6 * tl b ∧ 6 * (tl b - 1) ≤ b := by unfold tl; split <;> omega
theorem tl_mono {b : Int} (h0 : 0 ≤ b) : tl b ≤ tl (b + 1) := by unfold tl; split <;> split <;> omega
theorem wds_no {h b : Int} (e : okW h b = false) : wds h b = -1 := by unfold wds; rw [e]; rfl
theorem wds_yes {h b : Int} (e : okW h b = true) : wds h b = h + tl b := by unfold wds; rw [e]; rfl

/-- Numbers that don't fall. -/
def srtB (l : List Int) : Bool := (List.range l.length).all fun i => decide (i = 0) || decide (l.getD (i - 1) 0 ≤ l.getD i 0)
theorem srtB_iff (l : List Int) : srtB l = true ↔ ∀ i, i + 1 < l.length → l.getD i 0 ≤ l.getD (i + 1) 0 := by
  unfold srtB
  rw [List.all_eq_true]
  constructor
  · intro h i hi
    have := h (i + 1) (by simpa using hi)
    simp only [Nat.add_sub_cancel, Bool.or_eq_true, decide_eq_true_eq] at this
    omega
  · intro h i hi
    rw [List.mem_range] at hi
    cases i with
    | zero => simp
    | succ i =>
      have := h i hi
      simp only [Nat.add_sub_cancel, Bool.or_eq_true, decide_eq_true_eq]
      exact Or.inr this
/-- Which hops and bytes have a work. -/
def okH (l : List Int) (b : Int) : Bool := okW l.length b && (decide (0 ≤ l.getD 0 0) && srtB l)
def mv (n : Int) : Int := 2 + 3 * n
/-- The first k hops' moves. -/
def smK (l : List Int) (k : Nat) : Int := ((l.take k).map mv).sum
def lstH (l : List Int) : Int := l.getD (l.length - 1) 0
def wrk (l : List Int) (b : Int) : Int := if okH l b = true then tl b * mv (lstH l) + smK l l.length + 2 * lstH l + 2 * (l.length : Int) else -1
theorem smK_zero (l : List Int) : smK l 0 = 0 := by simp [smK]
theorem smK_succ (l : List Int) (k : Nat) (h : k < l.length) : smK l (k + 1) = smK l k + mv (l.getD k 0) := by
  unfold smK
  rw [List.take_add_one, List.getElem?_eq_getElem h, Option.toList_some, List.map_append, List.sum_append]
  simp [List.getD_eq_getElem?_getD, List.getElem?_eq_getElem h]
theorem okH_iff (l : List Int) (b : Int) : okH l b = true ↔ 1 ≤ l.length ∧ 0 ≤ b ∧ b ≤ 64 ∧ 0 ≤ l.getD 0 0 ∧ ∀ i, i + 1 < l.length → l.getD i 0 ≤ l.getD (i + 1) 0 := by
  unfold okH
  simp only [Bool.and_eq_true, decide_eq_true_eq, okW_iff, srtB_iff]
  constructor
  · rintro ⟨⟨h1, h2, h3⟩, h4, h5⟩
    exact ⟨by omega, h2, h3, h4, h5⟩
  · rintro ⟨h1, h2, h3, h4, h5⟩
    exact ⟨⟨by omega, h2, h3⟩, h4, h5⟩
theorem wrk_no {l : List Int} {b : Int} (e : okH l b = false) : wrk l b = -1 := by unfold wrk; rw [e]; rfl
theorem wrk_yes {l : List Int} {b : Int} (e : okH l b = true) : wrk l b = tl b * mv (lstH l) + smK l l.length + 2 * lstH l + 2 * (l.length : Int) := by unfold wrk; rw [e]; rfl
theorem ok_nonneg {l : List Int} (h0 : 0 ≤ l.getD 0 0) (hs : ∀ i, i + 1 < l.length → l.getD i 0 ≤ l.getD (i + 1) 0) : ∀ k, k < l.length → 0 ≤ l.getD k 0 := by
  intro k
  induction k with
  | zero => intro _; exact h0
  | succ k ih =>
    intro hk
    have := ih (by omega)
    have := hs k hk
    omega
/-- Few numbers, each a small one. -/
def Few (l : List Int) : Prop := l.length ≤ 100 ∧ ∀ k, -100 ≤ l.getD k 0 ∧ l.getD k 0 ≤ 100
theorem Few.sum {l : List Int} (h : Few l) : ∀ k, k ≤ l.length → -(1000 * (k : Int)) ≤ smK l k ∧ smK l k ≤ 1000 * (k : Int) := by
  intro k
  induction k with
  | zero => intro _; rw [smK_zero]; omega
  | succ k ih =>
    intro hk
    have := ih (by omega)
    have := h.2 k
    rw [smK_succ l k (by omega)]
    unfold mv
    omega
theorem Few.last {l : List Int} (h : Few l) : -100 ≤ lstH l ∧ lstH l ≤ 100 := h.2 _
/-- The product of the other words and of their moves. -/
theorem tl_mul {l : List Int} {b : Int} (h : Few l) (h0 : 0 ≤ b) (h1 : b ≤ 64) : -10000 ≤ tl b * mv (lstH l) ∧ tl b * mv (lstH l) ≤ 10000 := by
  have t := tl_in h0 h1
  have m := h.last
  unfold mv
  have : tl b = 1 ∨ tl b = 2 ∨ tl b = 3 ∨ tl b = 4 ∨ tl b = 5 ∨ tl b = 6 ∨ tl b = 7 ∨ tl b = 8 ∨ tl b = 9 ∨ tl b = 10 ∨ tl b = 11 := by omega
  rcases this with e | e | e | e | e | e | e | e | e | e | e <;> rw [e] <;> omega
theorem wrk_in {l : List Int} {b : Int} (h : Few l) : -1 ≤ wrk l b ∧ wrk l b ≤ 1000000 := by
  cases e : okH l b with
  | false => rw [wrk_no e]; omega
  | true =>
    rw [wrk_yes e]
    obtain ⟨h1, h2, h3, h4, h5⟩ := (okH_iff l b).1 e
    have t := tl_mul h h2 h3
    have s := h.sum _ (Nat.le_refl _)
    have m := h.last
    have hl := h.1
    have n0 := ok_nonneg h4 h5 (l.length - 1) (by omega)
    have tt := tl_in h2 h3
    have t0 : 0 ≤ tl b * mv (lstH l) := Int.mul_nonneg (by omega) (by unfold mv lstH; omega)
    have s0 : ∀ k, k ≤ l.length → 0 ≤ smK l k := by
      intro k
      induction k with
      | zero => intro _; rw [smK_zero]; omega
      | succ k ih =>
        intro hk
        rw [smK_succ l k (by omega)]
        have := ih (by omega)
        have := ok_nonneg h4 h5 k (by omega)
        unfold mv
        omega
    have := s0 _ (Nat.le_refl _)
    unfold lstH at *
    omega

/-- A Head more, and a step more. -/
theorem getD_app_lt {l : List Int} (x : Int) {k : Nat} (h : k < l.length) : (l ++ [x]).getD k 0 = l.getD k 0 := by
  rw [List.getD_eq_getElem?_getD, List.getD_eq_getElem?_getD, List.getElem?_append_left h]
theorem getD_app_eq (l : List Int) (x : Int) : (l ++ [x]).getD l.length 0 = x := by
  rw [List.getD_eq_getElem?_getD, List.getElem?_append_right (Nat.le_refl _)]
  simp
theorem smK_app (l : List Int) (x : Int) : smK (l ++ [x]) (l.length + 1) = smK l l.length + mv x := by
  rw [smK_succ _ _ (by simp), getD_app_eq]
  unfold smK
  rw [List.take_left', List.take_length]
  rfl
theorem ok_app {l : List Int} {b x : Int} (hb : 0 ≤ b ∧ b ≤ 64) (h : ∀ i, i + 1 < l.length → l.getD i 0 ≤ l.getD (i + 1) 0) (h0 : l.length ≠ 0 → 0 ≤ l.getD 0 0) (hx : 0 ≤ x) (hl : l.length ≠ 0 → lstH l ≤ x) : okH (l ++ [x]) b = true := by
  rw [okH_iff]
  refine ⟨by simp, hb.1, hb.2, ?_, ?_⟩
  · by_cases e : l.length = 0
    · have := getD_app_eq l x
      rw [e] at this
      rw [this]; exact hx
    · rw [getD_app_lt x (by omega)]; exact h0 e
  · intro i hi
    rw [List.length_append] at hi
    simp at hi
    rw [getD_app_lt x hi]
    by_cases e : i + 1 = l.length
    · rw [e, getD_app_eq]
      have := hl (by omega)
      unfold lstH at this
      rw [show l.length - 1 = i by omega] at this
      exact this
    · rw [getD_app_lt x (by omega)]
      exact h i (by omega)
theorem lst_app (l : List Int) (x : Int) : lstH (l ++ [x]) = x := by
  unfold lstH
  rw [List.length_append]
  simp
theorem wrk_more {l : List Int} {b : Int} (h : okH l b = true) : wrk l b < wrk (l ++ [lstH l]) b := by
  obtain ⟨h1, h2, h3, h4, h5⟩ := (okH_iff l b).1 h
  have hx := ok_nonneg h4 h5 (l.length - 1) (by omega)
  have e : okH (l ++ [lstH l]) b = true := ok_app ⟨h2, h3⟩ h5 (fun _ => h4) hx (fun _ => Int.le_refl _)
  rw [wrk_yes h, wrk_yes e, lst_app, List.length_append, show l.length + [lstH l].length = l.length + 1 from rfl, smK_app]
  unfold mv lstH at *
  omega
/-- The last one goes one step more. -/
theorem wrk_far {l : List Int} {b : Int} (h : okH l b = true) : wrk l b < wrk (l.take (l.length - 1) ++ [lstH l + 1]) b := by
  obtain ⟨h1, h2, h3, h4, h5⟩ := (okH_iff l b).1 h
  have hx := ok_nonneg h4 h5 (l.length - 1) (by omega)
  obtain ⟨m, x, rfl⟩ : ∃ m x, l = m ++ [x] := ⟨l.dropLast, l.getLast (by rintro rfl; simp at h1), (List.dropLast_concat_getLast _).symm⟩
  rw [lst_app]
  rw [List.length_append, show m.length + [x].length - 1 = m.length from rfl, List.take_left']
  · rw [List.length_append, show m.length + [x].length - 1 = m.length from rfl, getD_app_eq] at hx
    have hm : ∀ i, i + 1 < m.length → m.getD i 0 ≤ m.getD (i + 1) 0 := fun i hi => by
      have := h5 i (by rw [List.length_append]; simp; omega)
      rw [getD_app_lt x (by omega), getD_app_lt x hi] at this
      exact this
    have hz : m.length ≠ 0 → 0 ≤ m.getD 0 0 := fun hn => by
      rw [getD_app_lt x (by omega)] at h4
      exact h4
    have hl : m.length ≠ 0 → lstH m ≤ x + 1 := fun hn => by
      have := h5 (m.length - 1) (by rw [List.length_append]; simp; omega)
      rw [getD_app_lt x (by omega), show m.length - 1 + 1 = m.length by omega, getD_app_eq] at this
      unfold lstH
      omega
    have e : okH (m ++ [x + 1]) b = true := ok_app ⟨h2, h3⟩ hm hz (by omega) hl
    rw [wrk_yes h, wrk_yes e, lst_app, lst_app, List.length_append, List.length_append, show m.length + [x].length = m.length + 1 from rfl, show m.length + [x + 1].length = m.length + 1 from rfl, smK_app, smK_app]
    have t := tl_in h2 h3
    have : tl b * mv x ≤ tl b * mv (x + 1) := Int.mul_le_mul_of_nonneg_left (by unfold mv; omega) (by omega)
    unfold mv at *
    omega
  · rfl
theorem wrk_byte {l : List Int} {b : Int} (h : okH l b = true) (hb : b < 64) : wrk l b ≤ wrk l (b + 1) := by
  obtain ⟨h1, h2, h3, h4, h5⟩ := (okH_iff l b).1 h
  have hx := ok_nonneg h4 h5 (l.length - 1) (by omega)
  have e : okH l (b + 1) = true := (okH_iff _ _).2 ⟨h1, by omega, by omega, h4, h5⟩
  rw [wrk_yes h, wrk_yes e]
  have := tl_mono h2
  have : tl b * mv (lstH l) ≤ tl (b + 1) * mv (lstH l) := Int.mul_le_mul_of_nonneg_right this (by unfold mv lstH; omega)
  omega
theorem wrk_nil (b : Int) : wrk [] b = -1 := wrk_no rfl

/-- A number from -3 to 30, of any. -/
def smv (n : Int) : Int := (IntKind.u64.wrap n).tmod 34 - 3
theorem smv_in (n : Int) : ∃ q, (IntKind.u64.wrap n).tmod 34 = q ∧ 0 ≤ q ∧ q < 34 ∧ smv n = q - 3 := by
  obtain ⟨q, e, h0, h1⟩ := tm_in n 34 (by omega)
  exact ⟨q, e, h0, h1, by unfold smv; rw [e]⟩
def smL (l : List Int) : List Int := (l.take 6).map smv
theorem smL_len (l : List Int) : (smL l).length = min 6 l.length := by unfold smL; simp
theorem smL_few (l : List Int) : (smL l).length ≤ 6 ∧ ∀ k, -3 ≤ (smL l).getD k 0 ∧ (smL l).getD k 0 ≤ 30 := by
  refine ⟨by rw [smL_len]; omega, fun k => ?_⟩
  unfold smL
  rw [List.getD_eq_getElem?_getD, List.getElem?_map]
  cases h : (l.take 6)[k]? with
  | none => simp
  | some n =>
    obtain ⟨q, _, h0, h1, e⟩ := smv_in n
    simp only [Option.map_some, Option.getD_some]
    omega
end Go.Proofs.YtaohimmmhpmgdaaDoor
