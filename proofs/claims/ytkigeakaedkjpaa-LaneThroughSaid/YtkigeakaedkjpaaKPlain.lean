/-
  A lane as a list: its steps, what always holds of it; a parcel's words going through (plain mathematics).
-/
import Derived.Test.YtkigeakaedkjpaaGdW
namespace Go.Proofs.Ytkigeakaedkjpaa

/-- A lane: its room, words, phase, port, lane; does it copy? -/
structure KS where
  r : Nat
  ws : List Nat
  ph : Int
  port : Int
  lane : Int
  cp : Bool
/-- Where a word goes. -/
structure KO where
  port : Int
  lane : Int
  word : Nat
  copy : Bool
  ends : Bool
def zko : KO := ⟨0, 0, 0, false, false⟩
def newK (n : Int) : KS := ⟨(min (max n 1) 64).toNat, [], 0, 0, 0, false⟩
def putK (S : KS) (x : Nat) : KS × Int := if S.r ≤ S.ws.length then (S, 7) else ({ S with ws := S.ws ++ [x] }, 0)
/-- Is it a Head? -/
def hdK (x : Nat) : Bool := decide ((readR x).2 = 0) && decide ((readR x).1.k = 1)
def findK (S : KS) (node P : Int) : KS × Bool :=
  match S.ws with
  | [] => (S, false)
  | x :: _ =>
    if S.ph = 0 ∧ hdK x = true then
      if (readR x).1.d = node then ({ S with ph := 2, port := 0, lane := 0 }, true) else if 1 ≤ P ∧ P ≤ 4 then ({ S with ph := 1, port := P }, true) else (S, false)
    else (S, false)
def giveK (S : KS) (k : Int) : KS × Bool := if S.ph = 1 then ({ S with ph := 2, lane := k }, true) else (S, false)
def outK (S : KS) (x : Nat) : KO := ⟨S.port, S.lane, x, decide (S.port ≠ 0) && (S.cp && decide (x % 4 ≠ 1)), decide (x % 4 = 3)⟩
/-- Behind a word that was taken. -/
def nextK (S : KS) (x : Nat) (t : List Nat) : KS :=
  if x % 4 = 3 then { S with ws := t, ph := 0, port := 0, lane := 0, cp := false }
  else if x % 4 = 1 ∧ S.port = 0 ∧ (readR x).1.m = true then { S with ws := t, ph := 0, port := 0, lane := 0, cp := true }
  else { S with ws := t }
def takeK (S : KS) : KS × KO × Int :=
  if S.ph = 2 then
    match S.ws with
    | [] => (S, zko, 8)
    | x :: t => (nextK S x t, outK S x, 0)
  else (S, zko, 13)
/-- What always holds of a lane. -/
structure KOk (S : KS) : Prop where
  r1 : 1 ≤ S.r
  r64 : S.r ≤ 64
  wl : S.ws.length ≤ S.r
  wi : ∀ x ∈ S.ws, x < 18446744073709551616
  ph : S.ph = 0 ∨ S.ph = 1 ∨ S.ph = 2
theorem KOk.new (n : Int) : KOk (newK n) := ⟨by show 1 ≤ (min (max n 1) 64).toNat; omega, by show (min (max n 1) 64).toNat ≤ 64; omega, by simp [newK], by simp [newK], Or.inl rfl⟩
theorem KOk.put {S : KS} (h : KOk S) {x : Nat} (hx : x < 18446744073709551616) : KOk (putK S x).1 := by
  unfold putK
  split
  · exact h
  · rename_i hl
    refine ⟨h.r1, h.r64, by simp; omega, fun y hy => ?_, h.ph⟩
    simp only [List.mem_append, List.mem_singleton] at hy
    rcases hy with hy | rfl
    · exact h.wi y hy
    · exact hx
theorem KOk.find {S : KS} (h : KOk S) (node P : Int) : KOk (findK S node P).1 := by
  unfold findK
  split
  · exact h
  · split
    · split
      · exact ⟨h.r1, h.r64, h.wl, h.wi, Or.inr (Or.inr rfl)⟩
      · split
        · exact ⟨h.r1, h.r64, h.wl, h.wi, Or.inr (Or.inl rfl)⟩
        · exact h
    · exact h
theorem KOk.give {S : KS} (h : KOk S) (k : Int) : KOk (giveK S k).1 := by
  unfold giveK
  split
  · exact ⟨h.r1, h.r64, h.wl, h.wi, Or.inr (Or.inr rfl)⟩
  · exact h
theorem KOk.take {S : KS} (h : KOk S) : KOk (takeK S).1 := by
  unfold takeK
  split
  · split
    · exact h
    · rename_i x t e
      have hl := h.wl
      rw [e, List.length_cons] at hl
      have hi : ∀ y ∈ t, y < 18446744073709551616 := fun y hy => h.wi y (by rw [e]; exact List.mem_cons_of_mem _ hy)
      show KOk (nextK S x t)
      unfold nextK
      split
      · exact ⟨h.r1, h.r64, by show t.length ≤ S.r; omega, hi, Or.inl rfl⟩
      · split
        · exact ⟨h.r1, h.r64, by show t.length ≤ S.r; omega, hi, Or.inl rfl⟩
        · exact ⟨h.r1, h.r64, by show t.length ≤ S.r; omega, hi, h.ph⟩
  · exact h

/-- What a parcel's words are: so many Heads, then Bodies, then the Tail. -/
structure Wds (L : List Nat) (n : Nat) (D : Nat → Int) : Prop where
  n1 : 1 ≤ n
  len : n < L.length
  small : L.length ≤ 17
  lt : ∀ x ∈ L, x < 18446744073709551616
  hd : ∀ i, i < n → L.getD i 0 % 4 = 1 ∧ hdK (L.getD i 0) = true ∧ (readR (L.getD i 0)).1.d = D i ∧ (readR (L.getD i 0)).1.m = decide (i + 1 < n)
  bd : ∀ i, n ≤ i → i + 1 < L.length → L.getD i 0 % 4 = 2
  tl : L.getD (L.length - 1) 0 % 4 = 3
theorem wds_fine {P : Pc} (F : Fine P) : Wds P.ws P.hs.length fun i => (P.hs.getD i (0, 0)).1 := by
  obtain ⟨s1, s2⟩ := F.ws_small
  have l1 := F.l1
  have word : ∀ {f : Fl}, f.rightB = true → f.word % 4 = f.k := fun h => word_kind h
  refine ⟨l1, by omega, s1, ws_lt P, fun i hi => ?_, fun i h1 h2 => ?_, ?_⟩
  · have hr := hd_right F.ok hi
    have e := readR_word hr
    have k := word hr
    rw [ws_head hi]
    refine ⟨?_, ?_, ?_, ?_⟩
    · have : (hdF P i).k = 1 := rfl
      omega
    · unfold hdK
      rw [e]
      rfl
    · rw [e]
      rfl
    · rw [e]
      rfl
  · obtain ⟨j, rfl⟩ : ∃ j, i = P.hs.length + j := ⟨i - P.hs.length, by omega⟩
    have hj : j < nb P.x.size := by omega
    have k := word (bd_right hj)
    rw [ws_body hj]
    have : (bdF P.x j).k = 2 := rfl
    omega
  · have k := word (tl_right P.x)
    have e : P.ws.length - 1 = P.hs.length + nb P.x.size := by omega
    rw [e, ws_tail]
    have : (tlF P.x).k = 3 := rfl
    omega
theorem drop_getD {L : List Nat} {i : Nat} (h : i < L.length) : L.drop i = L.getD i 0 :: L.drop (i + 1) := by
  rw [List.drop_eq_getElem_cons h]
  simp [List.getD_eq_getElem?_getD, List.getElem?_eq_getElem h]
theorem findK_at {S : KS} {x : Nat} {t : List Nat} (hw : S.ws = x :: t) (node P : Int) : findK S node P = if S.ph = 0 ∧ hdK x = true then (if (readR x).1.d = node then ({ S with ph := 2, port := 0, lane := 0 }, true) else if 1 ≤ P ∧ P ≤ 4 then ({ S with ph := 1, port := P }, true) else (S, false)) else (S, false) := by
  unfold findK
  rw [hw]
theorem takeK_at {S : KS} {x : Nat} {t : List Nat} (hp : S.ph = 2) (hw : S.ws = x :: t) : takeK S = (nextK S x t, outK S x, 0) := by
  unfold takeK
  rw [if_pos hp, hw]
theorem Wds.ends {L : List Nat} {n : Nat} {D : Nat → Int} (h : Wds L n D) {i : Nat} (hi : i < L.length) : L.getD i 0 % 4 = 3 ↔ i + 1 = L.length := by
  by_cases e1 : i < n
  · have := (h.hd i e1).1
    have := h.len
    omega
  · by_cases e2 : i + 1 < L.length
    · have := h.bd i (by omega) e2
      omega
    · obtain rfl : i = L.length - 1 := by omega
      have := h.tl
      omega
theorem Wds.head {L : List Nat} {n : Nat} {D : Nat → Int} (h : Wds L n D) {i : Nat} (hi : i < L.length) : L.getD i 0 % 4 = 1 ↔ i < n := by
  by_cases e1 : i < n
  · have := (h.hd i e1).1
    omega
  · by_cases e2 : i + 1 < L.length
    · have := h.bd i (by omega) e2
      omega
    · obtain rfl : i = L.length - 1 := by omega
      have := h.tl
      omega
/-- Words going through, none for the node: all go on; T: what stands behind them. -/
def passK (r : Nat) (L T : List Nat) (p ln : Int) (i : Nat) : KS := if i < L.length then ⟨r, L.drop i ++ T, 2, p, ln, false⟩ else ⟨r, T, 0, 0, 0, false⟩
theorem pass_find {r : Nat} {L : List Nat} {n : Nat} {D : Nat → Int} (h : Wds L n D) (T : List Nat) {p node : Int} (hD : D 0 ≠ node) (hp : 1 ≤ p ∧ p ≤ 4) :
    findK ⟨r, L ++ T, 0, 0, 0, false⟩ node p = (⟨r, L ++ T, 1, p, 0, false⟩, true) := by
  have hl := h.len
  have hd := h.hd 0 (by have := h.n1; omega)
  have e := drop_getD (L := L) (i := 0) (by omega)
  rw [List.drop_zero] at e
  have e2 : L ++ T = L.getD 0 0 :: (L.drop 1 ++ T) := by rw [← List.cons_append, ← e]
  rw [findK_at (show _ = _ from e2), if_pos ⟨rfl, hd.2.1⟩, if_neg (by rw [hd.2.2.1]; exact hD), if_pos hp]
theorem pass_give {r : Nat} {L : List Nat} (T : List Nat) (hl : 0 < L.length) (p ln : Int) : giveK ⟨r, L ++ T, 1, p, 0, false⟩ ln = (passK r L T p ln 0, true) := by
  unfold passK
  rw [if_pos hl, List.drop_zero]
  rfl
theorem pass_step {r : Nat} {L : List Nat} {n : Nat} {D : Nat → Int} (h : Wds L n D) (T : List Nat) {p ln : Int} (hp : p ≠ 0) {i : Nat} (hi : i < L.length) :
    takeK (passK r L T p ln i) = (passK r L T p ln (i + 1), ⟨p, ln, L.getD i 0, false, decide (i + 1 = L.length)⟩, 0) := by
  have e : passK r L T p ln i = ⟨r, L.drop i ++ T, 2, p, ln, false⟩ := by unfold passK; rw [if_pos hi]
  have e2 : L.drop i ++ T = L.getD i 0 :: (L.drop (i + 1) ++ T) := by rw [drop_getD hi]; rfl
  rw [e, takeK_at rfl (show _ = _ from e2)]
  have hk := h.ends hi
  unfold nextK outK passK
  simp only
  by_cases e3 : i + 1 = L.length
  · rw [if_pos (hk.2 e3), if_neg (by omega), List.drop_eq_nil_of_le (by omega), decide_eq_true (hk.2 e3), decide_eq_true e3, Bool.false_and, Bool.and_false]
    rfl
  · have ne : ¬ L.getD i 0 % 4 = 3 := fun c => e3 (hk.1 c)
    rw [if_neg ne, if_neg (fun c => hp c.2.1), if_pos (by omega), decide_eq_false ne, decide_eq_false e3, Bool.false_and, Bool.and_false]
/-- A word put behind the others. -/
theorem put_take {r : Nat} {L : List Nat} {i : Nat} (hi : i < L.length) (T : List Nat) (hr : T.length + L.length ≤ r) : putK ⟨r, T ++ L.take i, 0, 0, 0, false⟩ (L.getD i 0) = (⟨r, T ++ L.take (i + 1), 0, 0, 0, false⟩, 0) := by
  unfold putK
  rw [if_neg (by simp only [List.length_append, List.length_take]; omega)]
  have e : L.take (i + 1) = L.take i ++ [L.getD i 0] := by
    rw [List.take_add_one, List.getElem?_eq_getElem hi, List.getD_eq_getElem?_getD, List.getElem?_eq_getElem hi]
    rfl
  rw [e, List.append_assoc]
/-- Words going through, at the node of the first Head. -/
def thruK (r : Nat) (L : List Nat) (n : Nat) (p ln : Int) (i : Nat) : KS :=
  if i < L.length then (if i = 0 ∨ n = 1 then ⟨r, L.drop i, 2, 0, 0, false⟩ else if i = 1 then ⟨r, L.drop 1, 0, 0, 0, true⟩ else ⟨r, L.drop i, 2, p, ln, true⟩) else ⟨r, [], 0, 0, 0, false⟩
/-- Behind the way that was found anew, at the second word. -/
def midK (r : Nat) (L : List Nat) (p ln : Int) : KS := ⟨r, L.drop 1, 2, p, ln, true⟩
def thruO (L : List Nat) (n : Nat) (p ln : Int) (i : Nat) : KO := if i = 0 ∨ n = 1 then ⟨0, 0, L.getD i 0, false, decide (i + 1 = L.length)⟩ else ⟨p, ln, L.getD i 0, decide (n ≤ i), decide (i + 1 = L.length)⟩
theorem thru_find0 {r : Nat} {L : List Nat} {n : Nat} {D : Nat → Int} (h : Wds L n D) (P p ln : Int) : findK ⟨r, L, 0, 0, 0, false⟩ (D 0) P = (thruK r L n p ln 0, true) := by
  have hl := h.len
  have hd := h.hd 0 (by have := h.n1; omega)
  have e := drop_getD (L := L) (i := 0) (by omega)
  rw [List.drop_zero] at e
  rw [findK_at (show _ = _ from e), if_pos ⟨rfl, hd.2.1⟩, if_pos hd.2.2.1]
  unfold thruK
  rw [if_pos (by omega), if_pos (Or.inl rfl), List.drop_zero]
theorem thru_find1 {r : Nat} {L : List Nat} {n : Nat} {D : Nat → Int} (h : Wds L n D) {p ln node : Int} (hn : 1 < n) (hD : D 1 ≠ node) (hp : 1 ≤ p ∧ p ≤ 4) :
    findK (thruK r L n p ln 1) node p = (⟨r, L.drop 1, 1, p, 0, true⟩, true) := by
  have hl := h.len
  have hd := h.hd 1 hn
  have e1 : thruK r L n p ln 1 = ⟨r, L.drop 1, 0, 0, 0, true⟩ := by unfold thruK; rw [if_pos (by omega), if_neg (by omega), if_pos rfl]
  rw [e1, findK_at (show _ = _ from drop_getD (L := L) (i := 1) (by omega)), if_pos ⟨rfl, hd.2.1⟩, if_neg (by rw [hd.2.2.1]; exact hD), if_pos hp]
theorem give_mid (r : Nat) (L : List Nat) (p ln : Int) : giveK ⟨r, L.drop 1, 1, p, 0, true⟩ ln = (midK r L p ln, true) := rfl
/-- The lane ahead of a taking. -/
def preK (r : Nat) (L : List Nat) (n : Nat) (p ln : Int) (i : Nat) : KS := if i = 1 ∧ 1 < n then midK r L p ln else thruK r L n p ln i
theorem thru_step {r : Nat} {L : List Nat} {n : Nat} {D : Nat → Int} (h : Wds L n D) {p ln : Int} (hp : p ≠ 0) {i : Nat} (hi : i < L.length) :
    takeK (preK r L n p ln i) = (thruK r L n p ln (i + 1), thruO L n p ln i, 0) := by
  have hl := h.len
  have h1 := h.n1
  have he := h.ends hi
  have hh := h.head hi
  by_cases e1 : i = 0 ∨ n = 1
  · have e : preK r L n p ln i = ⟨r, L.drop i, 2, 0, 0, false⟩ := by
      unfold preK thruK
      rw [if_neg (by omega), if_pos hi, if_pos e1]
    rw [e, takeK_at rfl (show _ = _ from drop_getD hi)]
    unfold nextK outK thruK thruO
    rw [if_pos e1]
    simp only
    by_cases e3 : i + 1 = L.length
    · rw [if_pos (he.2 e3), if_neg (by omega), List.drop_eq_nil_of_le (by omega), decide_eq_true (he.2 e3), decide_eq_true e3]
      rfl
    · have ne : ¬ L.getD i 0 % 4 = 3 := fun c => e3 (he.1 c)
      rw [if_neg ne]
      by_cases e4 : i = 0 ∧ 1 < n
      · obtain ⟨rfl, hn⟩ := e4
        have hd := h.hd 0 (by omega)
        rw [if_pos ⟨hd.1, trivial, by rw [hd.2.2.2]; simpa using hn⟩, if_pos (by omega), if_neg (by omega), if_pos rfl, decide_eq_false ne, decide_eq_false e3]
        rfl
      · rw [if_neg (fun c => by
          obtain ⟨c1, -, c3⟩ := c
          have hin := hh.1 c1
          rw [(h.hd i hin).2.2.2] at c3
          simp only [decide_eq_true_eq] at c3
          omega), if_pos (by omega), if_pos (by omega), decide_eq_false ne, decide_eq_false e3]
        rfl
  · have e : preK r L n p ln i = ⟨r, L.drop i, 2, p, ln, true⟩ := by
      unfold preK
      by_cases e2 : i = 1
      · subst e2
        rw [if_pos ⟨rfl, by omega⟩]
        rfl
      · rw [if_neg (by omega)]
        unfold thruK
        rw [if_pos hi, if_neg e1, if_neg e2]
    rw [e, takeK_at rfl (show _ = _ from drop_getD hi)]
    unfold nextK outK thruK thruO
    rw [if_neg e1]
    simp only
    have hc : decide (L.getD i 0 % 4 ≠ 1) = decide (n ≤ i) := by
      by_cases c : i < n
      · rw [decide_eq_false (by have := hh.2 c; omega), decide_eq_false (by omega)]
      · rw [decide_eq_true (show L.getD i 0 % 4 ≠ 1 from fun k => c (hh.1 k)), decide_eq_true (by omega)]
    rw [hc, decide_eq_true hp]
    simp only [Bool.true_and]
    by_cases e3 : i + 1 = L.length
    · rw [if_pos (he.2 e3), if_neg (by omega), List.drop_eq_nil_of_le (by omega), decide_eq_true (he.2 e3), decide_eq_true e3]
    · have ne : ¬ L.getD i 0 % 4 = 3 := fun c => e3 (he.1 c)
      rw [if_neg ne, if_neg (fun c => hp c.2.1), if_pos (by omega), if_neg (by omega), if_neg (by omega), decide_eq_false ne, decide_eq_false e3]
end Go.Proofs.Ytkigeakaedkjpaa
