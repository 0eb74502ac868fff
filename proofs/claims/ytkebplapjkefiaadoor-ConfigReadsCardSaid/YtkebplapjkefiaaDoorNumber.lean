/-
  The walk of the document's Number.
-/
import Derived.Test.YtkebplapjkefiaaDoorDig
import Derived.Test.YtkebplapjkefiaaDoorRead
namespace Go.Proofs.YtkebplapjkefiaaDoor
open Go.RowKit Go.Lib

theorem numB_itoa_of {s : L} (h : numB s = true) : ∃ n : Int, s = itoa n ∧ short n := ⟨nval s, (numB_of h).1.symm, (numB_of h).2⟩

/-- The digits of a number's text. -/
theorem bare_digits (n : Int) : bare (itoa n) = decDigits n.natAbs := by
  by_cases h : n < 0
  · rw [itoa_min n h, bare_min]
    congr 1
    omega
  · rw [itoa_nat n (by omega), show n.natAbs = n.toNat by omega]
    have hd := decDigits_digit n.toNat
    have hn := decDigits_ne n.toNat
    generalize decDigits n.toNat = l at *
    cases l with
    | nil => exact absurd rfl hn
    | cons b r =>
      have hb := hd b (by simp)
      rw [bare_other b r (by rintro rfl; simp at hb)]

theorem numB_digit {s : L} (h : numB s = true) : ∀ b ∈ bare s, 48 ≤ b.toNat ∧ b.toNat ≤ 57 := by
  obtain ⟨n, rfl, _⟩ := numB_itoa_of h
  rw [bare_digits]
  exact decDigits_digit _
theorem numB_no {s : L} {k : Nat} {b : UInt8} (hk : (bare s)[k]? = some b) (hb : ¬ (48 ≤ b.toNat ∧ b.toNat ≤ 57)) : numB s = false := by
  cases h : numB s with
  | false => rfl
  | true => exact absurd (numB_digit h b (List.mem_of_getElem? hk)) hb
theorem numB_long {s : L} (h : 9 < (bare s).length) : numB s = false := by
  cases h2 : numB s with
  | false => rfl
  | true =>
    obtain ⟨n, rfl, hs⟩ := numB_itoa_of h2
    have := bare_short n hs
    omega

/-- With its sign. -/
def sg (s : L) (a : Nat) : Int := if s.head? = some 45 then -(a : Int) else a

theorem sg_itoa {n : Int} {a : Nat} (h : decFrom 0 (bare (itoa n)) = some a) : sg (itoa n) a = n := by
  rw [bare_digits, decFrom_decDigits] at h
  have h := Option.some.inj h
  unfold sg
  by_cases h0 : n < 0
  · rw [itoa_min n h0, List.head?_cons, if_pos rfl]
    omega
  · rw [if_neg]
    · omega
    · rw [itoa_nat n (by omega)]
      have hd := decDigits_digit n.toNat
      generalize decDigits n.toNat = l at *
      cases l with
      | nil => simp
      | cons b r =>
        have hb := hd b (by simp)
        simp only [List.head?_cons, Option.some.injEq]
        rintro rfl
        simp at hb

theorem numB_eq {s : L} {a : Nat} (h : decFrom 0 (bare s) = some a) (hl : (bare s).length ≤ 9) : numB s = (itoa (sg s a) == s) ∧ (numB s = true → nval s = sg s a) := by
  by_cases h2 : itoa (sg s a) = s
  · have hs : short (sg s a) := short_of_itoa (by rw [h2]; exact hl)
    have e : numB s = true := by rw [← h2]; exact numB_itoa _ hs
    refine ⟨by rw [e]; simp [h2], fun _ => ?_⟩
    conv => lhs; rw [← h2]
    exact nval_itoa _
  · have e : numB s = false := by
      cases h3 : numB s with
      | false => rfl
      | true =>
        obtain ⟨n, rfl, _⟩ := numB_itoa_of h3
        exact absurd (by rw [sg_itoa h]) h2
    refine ⟨by rw [e]; symm; simpa using h2, fun h => ?_⟩
    rw [e] at h
    cases h

/-- What Number tells. -/
def NumP (s : L) (w : World) (e : Ending) (w' : World) : Prop := (∃ k, w' = w.drewN k) ∧ ∃ v : Int, e = .returned (.tuple #[.int .i64 v, .bool (numB s)]) ∧ (numB s = true → v = nval s)
theorem NumP.no {s : L} {w w' : World} {v : Int} (h : numB s = false) (hw : ∃ k, w' = w.drewN k) : NumP s w (.returned (.tuple #[.int .i64 v, .bool false])) w' := ⟨hw, v, by rw [h], fun h2 => by rw [h] at h2; cases h2⟩
theorem NumP.mk {s : L} {w w' : World} {v : Int} {b : Bool} (h : numB s = b) (h2 : numB s = true → v = nval s) (hw : ∃ k, w' = w.drewN k) : NumP s w (.returned (.tuple #[.int .i64 v, .bool b])) w' := ⟨hw, v, by rw [h], h2⟩

theorem byte_of (s : L) (i : Nat) (h : i < (bs s).size) : (bs s)[i].toNat = (s.getD i 0).toNat := by
  have h' : i < s.length := by rw [bs_size] at h; exact h
  rw [List.getD_eq_getElem?_getD, List.getElem?_eq_getElem h']
  rfl

theorem min_form {s : L} (h : s.head? = some 45) : s = 45 :: bare s := by
  cases s with
  | nil => cases h
  | cons b r =>
    simp only [List.head?_cons, Option.some.injEq] at h
    subst h
    rw [bare_min]
theorem other_form {s : L} (h : s.head? ≠ some 45) : bare s = s := by
  cases s with
  | nil => rfl
  | cons b r =>
    exact bare_other b r (fun e => h (by rw [e]; rfl))

set_option maxRecDepth 100000 in
set_option maxHeartbeats 2000000 in
theorem number_min (s r : L) (hf : s.head? = some 45) (hbr : bare s = r) (hs : s.length ≤ 1000) (w : World) : Calls Tryd.prog 26 #[.string (bs s)] w (NumP s w) := by
    have HNP : Hid (∀ v k, numB s = false → NumP s w (.returned (.tuple #[.int .i64 v, .bool false])) (w.drewN k)) := fun v k h => NumP.no h ⟨k, rfl⟩
    obtain ⟨N, hrn⟩ : ∃ N, r.length = N := ⟨_, rfl⟩
    have hform := min_form hf
    rw [hbr] at hform
    have hsg : ∀ a : Nat, sg s a = -(a : Int) := fun a => by unfold sg; rw [if_pos hf]
    have hsz : (bs s).size = N + 1 := by rw [bs_size, hform]; simp [hrn]
    have hsl : (bs s).toList = s := bs_toList s
    have hN : N ≤ 999 := by rw [bs_size] at hsz; omega
    have hby : ∀ k c, r[k]? = some c → (h : 1 + k < (bs s).size) → (bs s)[1 + k].toNat = c.toNat := fun k c hc h => by
      rw [byte_of s (1 + k) h, hform, List.getD_eq_getElem?_getD, Nat.add_comm 1 k, List.getElem?_cons_succ, hc]
      rfl
    have hp0 : 0 < (bs s).size := by omega
    have hb0 : (bs s)[0].toNat = 45 := by rw [byte_of s 0 hp0, hform]; rfl
    clear hform hf
    generalize bs s = S at *
    have HBR : Hid (bare s = r) := hbr
    have HRN : Hid (r.length = N) := hrn
    have HBY : Hid (∀ k c, r[k]? = some c → (h : 1 + k < S.size) → S[1 + k].toNat = c.toNat) := hby
    have HSG : Hid (∀ a : Nat, sg s a = -(a : Int)) := hsg
    have HSZ : Hid (S.size = N + 1) := hsz
    have HSL : Hid (S.toList = s) := hsl
    have hS : S.size ≤ 1000 := by omega
    clear hbr hrn hby hsg hs hsz hsl
    go_enter Tryd.func26, Tryd.ntmps26
    go_wp2
    go_loop [4, 6] (fun v4 i => ∃ k a : Nat, k ≤ 10 ∧ k ≤ N ∧ i = .int .i64 (1 + k : Nat) ∧ v4 = .int .i64 a ∧ a < 10000000000 ∧ Hid (decFrom 0 (r.take k) = some a)) (fun _ i => S.size - (RowKit.intOf i).toNat)
    case atStart => exact ⟨0, 0, by omega, by omega, rfl, rfl, by omega, rfl⟩
    case round =>
      obtain ⟨k, a, hk, hkr, rfl, rfl, ha, HD⟩ := hrel
      by_cases hlt : k < N ∧ k < 10
      · obtain ⟨hlt1, hlt2⟩ := hlt
        obtain ⟨c, hc⟩ : ∃ c : UInt8, r[k]? = some c := ⟨r[k]'(by rw [HRN.out]; exact hlt1), List.getElem?_eq_getElem _⟩
        have hi : 1 + k < S.size := by have := HSZ.out; omega
        have hi11 : 1 + k < 11 := by omega
        have hbyte : S[1 + k].toNat = c.toNat := HBY.out k c hc hi
        have HC : Hid (r[k]? = some c) := hc
        clear hc hlt1 hlt2
        have hc256 := c.toNat_lt
        by_cases h1 : c.toNat < 48
        · have HN : Hid (numB s = false) := numB_no (by rw [HBR.out]; exact HC.out) (by omega)
          have h1' : (c.toNat : Int) < 48 := by omega
          generalize c.toNat = cn at *
          go_wp2
          go_ret2
          exact HNP.out _ 0 HN.out
        · have h1' : ¬ (c.toNat : Int) < 48 := by omega
          by_cases h2 : 57 < c.toNat
          · have HN : Hid (numB s = false) := numB_no (by rw [HBR.out]; exact HC.out) (by omega)
            have h2' : (57 : Int) < (c.toNat : Int) := by omega
            generalize c.toNat = cn at *
            go_wp2
            go_ret2
            exact HNP.out _ 0 HN.out
          · have h2' : ¬ (57 : Int) < (c.toNat : Int) := by omega
            have hd : digitVal c = some (c.toNat - 48) := by unfold digitVal; rw [if_pos (by omega)]
            have hs2 := decFrom_take r k 0 a c _ HD.out HC.out hd
            have hlt3 := decFrom_lt _ _ _ hs2
            have hpw : (10 : Nat) ^ (r.take (k + 1)).length ≤ 10 ^ 10 := Nat.pow_le_pow_right (by decide) (by rw [List.length_take]; omega)
            have e10 : (10 : Nat) ^ 10 = 10000000000 := by decide
            have hlt4 : a * 10 + (c.toNat - 48) < 10000000000 := by omega
            have HD2 : Hid (decFrom 0 (r.take (k + 1)) = some (a * 10 + (c.toNat - 48))) := hs2
            clear hd hs2 hlt3 hpw e10
            generalize c.toNat = cn at *
            go_wp2
            go_round
            case rel => exact ⟨k + 1, a * 10 + (cn - 48), by omega, by have := HSZ.out; omega, by go_num, by congr 1; omega, hlt4, HD2⟩
            case measure => simp [RowKit.intOf]; omega
      · by_cases h9 : N ≤ 9
        · obtain rfl : k = N := by omega
          have hda : decFrom 0 (bare s) = some a := by
            have h := HD.out
            rw [List.take_of_length_le (by rw [HRN.out]; exact Nat.le_refl _)] at h
            rw [HBR.out]
            exact h
          have hq := numB_eq hda (by rw [HBR.out, HRN.out]; exact h9)
          have hsg : sg s a = -(a : Int) := HSG.out a
          rw [hsg] at hq
          have hin : int64 (-(a : Int)) := by unfold int64; omega
          have DG := digits_any (-(a : Int)) hin
          have e1 : ((bs (itoa (-(a : Int)))).toList == S.toList) = numB s := by rw [bs_toList, HSL.out]; exact hq.1.symm
          have H2 : Hid (numB s = true → (-(a : Int)) = nval s) := fun h => (hq.2 h).symm
          generalize bs (itoa (-(a : Int))) = X at *
          obtain ⟨nb, hnb⟩ : ∃ b, b = numB s := ⟨_, rfl⟩
          rw [← hnb] at e1
          have HNB : Hid (numB s = nb) := hnb.symm
          clear hnb hq hsg hda hin hlt
          have t1 : ¬ (1 + k < S.size) := by have := HSZ.out; omega
          have t3 : ((S.size : Int) - 1 ≤ 9) := by have := HSZ.out; omega
          have t4 : S.size ≤ 10 := by have := HSZ.out; omega
          cases nb
          all_goals
            go_wp2_with (go_at_call 24; (with_reducible refine (DG _).mono ?_); rintro e w' ⟨rfl, kk, rfl⟩)
            go_ret2
            exact NumP.mk HNB.out H2.out ⟨_, rfl⟩
        · have HN : Hid (numB s = false) := numB_long (by rw [HBR.out, HRN.out]; omega)
          have t2 : ¬ (1 + k < 11) := by omega
          have t3 : ¬ ((S.size : Int) - 1 ≤ 9) := by have := HSZ.out; omega
          have t4 : ¬ (S.size ≤ 9) := by have := HSZ.out; omega
          clear hlt
          by_cases t1 : 1 + k < S.size
          all_goals
            go_wp2
            go_ret2
            exact HNP.out _ 0 HN.out

set_option maxRecDepth 100000 in
set_option maxHeartbeats 2000000 in
theorem number_other (s r : L) (hf : s.head? ≠ some 45) (hbr : bare s = r) (hs : s.length ≤ 1000) (w : World) : Calls Tryd.prog 26 #[.string (bs s)] w (NumP s w) := by
    have HNP : Hid (∀ v k, numB s = false → NumP s w (.returned (.tuple #[.int .i64 v, .bool false])) (w.drewN k)) := fun v k h => NumP.no h ⟨k, rfl⟩
    obtain ⟨N, hrn⟩ : ∃ N, r.length = N := ⟨_, rfl⟩
    have hform := other_form hf
    rw [hbr] at hform
    have hsg : ∀ a : Nat, sg s a = (a : Int) := fun a => by unfold sg; rw [if_neg hf]
    have hsz : (bs s).size = N := by rw [bs_size, ← hform]; exact hrn
    have hsl : (bs s).toList = s := bs_toList s
    have hN : N ≤ 1000 := by rw [bs_size] at hsz; omega
    have hby : ∀ k c, r[k]? = some c → (h : k < (bs s).size) → (bs s)[k].toNat = c.toNat := fun k c hc h => by
      rw [byte_of s k h, ← hform, List.getD_eq_getElem?_getD, hc]
      rfl
    by_cases hp0 : 0 < (bs s).size
    · have hne : (bs s)[0].toNat ≠ 45 := by
        rw [byte_of s 0 hp0]
        intro h
        apply hf
        rw [bs_size] at hp0
        cases s with
        | nil => simp at hp0
        | cons b q =>
          simp only [List.getD_cons_zero] at h
          rw [List.head?_cons]
          congr 1
          exact UInt8.toNat_inj.mp h
      obtain ⟨c0, hb0⟩ : ∃ c0 : Nat, (bs s)[0].toNat = c0 := ⟨_, rfl⟩
      have hc0 : c0 ≠ 45 := by rw [← hb0]; exact hne
      clear hne
      have t0 : ((c0 : Int) == 45) = false := by simp; omega
      clear hform hf hc0
      generalize bs s = S at *
      have HBR : Hid (bare s = r) := hbr
      have HRN : Hid (r.length = N) := hrn
      have HBY : Hid (∀ k c, r[k]? = some c → (h : k < S.size) → S[k].toNat = c.toNat) := hby
      have HSG : Hid (∀ a : Nat, sg s a = (a : Int)) := hsg
      have HSZ : Hid (S.size = N) := hsz
      have HSL : Hid (S.toList = s) := hsl
      have hS : S.size ≤ 1000 := by omega
      clear hbr hrn hby hsg hs hsz hsl
      go_enter Tryd.func26, Tryd.ntmps26
      go_wp2
      go_loop [4, 6] (fun v4 i => ∃ k a : Nat, k ≤ 10 ∧ k ≤ N ∧ i = .int .i64 (k : Nat) ∧ v4 = .int .i64 a ∧ a < 10000000000 ∧ Hid (decFrom 0 (r.take k) = some a)) (fun _ i => S.size - (RowKit.intOf i).toNat)
      case atStart => exact ⟨0, 0, by omega, by omega, rfl, rfl, by omega, rfl⟩
      case round =>
        obtain ⟨k, a, hk, hkr, rfl, rfl, ha, HD⟩ := hrel
        by_cases hlt : k < N ∧ k < 10
        · obtain ⟨hlt1, hlt2⟩ := hlt
          obtain ⟨c, hc⟩ : ∃ c : UInt8, r[k]? = some c := ⟨r[k]'(by rw [HRN.out]; exact hlt1), List.getElem?_eq_getElem _⟩
          have hi : k < S.size := by have := HSZ.out; omega
          have hi11 : k < 10 := by omega
          have hbyte : S[k].toNat = c.toNat := HBY.out k c hc hi
          have HC : Hid (r[k]? = some c) := hc
          clear hc hlt1 hlt2
          have hc256 := c.toNat_lt
          by_cases h1 : c.toNat < 48
          · have HN : Hid (numB s = false) := numB_no (by rw [HBR.out]; exact HC.out) (by omega)
            have h1' : (c.toNat : Int) < 48 := by omega
            generalize c.toNat = cn at *
            go_wp2
            go_ret2
            exact HNP.out _ 0 HN.out
          · have h1' : ¬ (c.toNat : Int) < 48 := by omega
            by_cases h2 : 57 < c.toNat
            · have HN : Hid (numB s = false) := numB_no (by rw [HBR.out]; exact HC.out) (by omega)
              have h2' : (57 : Int) < (c.toNat : Int) := by omega
              generalize c.toNat = cn at *
              go_wp2
              go_ret2
              exact HNP.out _ 0 HN.out
            · have h2' : ¬ (57 : Int) < (c.toNat : Int) := by omega
              have hd : digitVal c = some (c.toNat - 48) := by unfold digitVal; rw [if_pos (by omega)]
              have hs2 := decFrom_take r k 0 a c _ HD.out HC.out hd
              have hlt3 := decFrom_lt _ _ _ hs2
              have hpw : (10 : Nat) ^ (r.take (k + 1)).length ≤ 10 ^ 10 := Nat.pow_le_pow_right (by decide) (by rw [List.length_take]; omega)
              have e10 : (10 : Nat) ^ 10 = 10000000000 := by decide
              have hlt4 : a * 10 + (c.toNat - 48) < 10000000000 := by omega
              have HD2 : Hid (decFrom 0 (r.take (k + 1)) = some (a * 10 + (c.toNat - 48))) := hs2
              clear hd hs2 hlt3 hpw e10
              generalize c.toNat = cn at *
              go_wp2
              go_round
              case rel => exact ⟨k + 1, a * 10 + (cn - 48), by omega, by have := HSZ.out; omega, by go_num, by congr 1; omega, hlt4, HD2⟩
              case measure => simp [RowKit.intOf]; omega
        · by_cases h9 : N ≤ 9
          · obtain rfl : k = N := by omega
            have hda : decFrom 0 (bare s) = some a := by
              have h := HD.out
              rw [List.take_of_length_le (by rw [HRN.out]; exact Nat.le_refl _)] at h
              rw [HBR.out]
              exact h
            have hq := numB_eq hda (by rw [HBR.out, HRN.out]; exact h9)
            have hsg : sg s a = (a : Int) := HSG.out a
            rw [hsg] at hq
            have hin : int64 ((a : Int)) := by unfold int64; omega
            have DG := digits_any ((a : Int)) hin
            have e1 : ((bs (itoa ((a : Int)))).toList == S.toList) = numB s := by rw [bs_toList, HSL.out]; exact hq.1.symm
            have H2 : Hid (numB s = true → ((a : Int)) = nval s) := fun h => (hq.2 h).symm
            generalize bs (itoa ((a : Int))) = X at *
            obtain ⟨nb, hnb⟩ : ∃ b, b = numB s := ⟨_, rfl⟩
            rw [← hnb] at e1
            have HNB : Hid (numB s = nb) := hnb.symm
            clear hnb hq hsg hda hin hlt
            have t1 : ¬ (k < S.size) := by have := HSZ.out; omega
            have t3 : ((S.size : Int) ≤ 9) := by have := HSZ.out; omega
            have t4 : S.size ≤ 9 := by have := HSZ.out; omega
            cases nb
            all_goals
              go_wp2_with (go_at_call 24; (with_reducible refine (DG _).mono ?_); rintro e w' ⟨rfl, kk, rfl⟩)
              go_ret2
              exact NumP.mk HNB.out H2.out ⟨_, rfl⟩
          · have HN : Hid (numB s = false) := numB_long (by rw [HBR.out, HRN.out]; omega)
            have t2 : ¬ (k < 10) := by omega
            have t3 : ¬ ((S.size : Int) ≤ 9) := by have := HSZ.out; omega
            have t4 : ¬ (S.size ≤ 9) := by have := HSZ.out; omega
            clear hlt
            by_cases t1 : k < S.size
            all_goals
              go_wp2
              go_ret2
              exact HNP.out _ 0 HN.out
    · have hp1 : N = 0 := by omega
      have hsn : s = [] := List.eq_nil_of_length_eq_zero (by rw [← hform, hrn]; exact hp1)
      have hsz0 : (bs s).size = 0 := by omega
      have e1 : ((bs (itoa 0)).toList == s) = false := by rw [bs_toList, hsn]; decide +kernel
      have HN : Hid (numB s = false) := by show _ = _; rw [hsn]; rfl
      have DG := digits_any 0 (by unfold int64; omega)
      generalize bs (itoa 0) = X at *
      clear hform hf hsg hby hsz hsl hrn hbr hsn hN hp0 hp1 hs
      go_enter Tryd.func26, Tryd.ntmps26
      go_wp2
      go_loop [4, 6] (fun v4 i => i = .int .i64 0 ∧ v4 = .int .i64 0) (fun _ _ => 0)
      case atStart => exact ⟨rfl, rfl⟩
      case round =>
        obtain ⟨rfl, rfl⟩ := hrel
        go_wp2_with (go_at_call 24; (with_reducible refine (DG _).mono ?_); rintro e w' ⟨rfl, kk, rfl⟩)
        go_ret2
        exact HNP.out _ _ HN.out

theorem number_any (s : L) (hs : s.length ≤ 1000) (w : World) : Calls Tryd.prog 26 #[.string (bs s)] w (NumP s w) := by
  by_cases h : s.head? = some 45
  · exact number_min s _ h rfl hs w
  · exact number_other s _ h rfl hs w
end Go.Proofs.YtkebplapjkefiaaDoor
