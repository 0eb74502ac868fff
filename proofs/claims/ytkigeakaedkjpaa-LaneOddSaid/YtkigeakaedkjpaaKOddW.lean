/-
  The walk of LaneOdd.
-/
import Derived.Test.YtkigeakaedkjpaaKLives
namespace Go.Proofs.Ytkigeakaedkjpaa
open Go.RowKit

/-- Where the way of a lone word leads, in six ways. -/
theorem odd_ways (x : Nat) (node P : Int) :
    ∃ ph pt r, findK ⟨2, [x], 0, 0, 0, false⟩ node P = (⟨2, [x], ph, pt, 0, false⟩, r) ∧
      ((¬ (readR x).2 = 0 ∧ ph = 0 ∧ r = false) ∨ ((readR x).2 = 0 ∧ ¬ (readR x).1.k = 1 ∧ ph = 0 ∧ r = false) ∨
        ((readR x).2 = 0 ∧ (readR x).1.k = 1 ∧ (readR x).1.d = node ∧ ph = 2 ∧ r = true) ∨
        ((readR x).2 = 0 ∧ (readR x).1.k = 1 ∧ ¬ (readR x).1.d = node ∧ 1 ≤ P ∧ P ≤ 4 ∧ ph = 1 ∧ r = true) ∨
        ((readR x).2 = 0 ∧ (readR x).1.k = 1 ∧ ¬ (readR x).1.d = node ∧ P < 1 ∧ ph = 0 ∧ r = false) ∨
        ((readR x).2 = 0 ∧ (readR x).1.k = 1 ∧ ¬ (readR x).1.d = node ∧ 1 ≤ P ∧ 4 < P ∧ ph = 0 ∧ r = false)) := by
  rw [findK_at (show _ = _ from rfl)]
  unfold hdK
  by_cases h1 : (readR x).2 = 0
  · by_cases h2 : (readR x).1.k = 1
    · rw [if_pos ⟨rfl, by rw [decide_eq_true h1, decide_eq_true h2]; rfl⟩]
      by_cases h3 : (readR x).1.d = node
      · rw [if_pos h3]
        exact ⟨_, _, _, rfl, Or.inr (Or.inr (Or.inl ⟨h1, h2, h3, rfl, rfl⟩))⟩
      · rw [if_neg h3]
        by_cases h4 : 1 ≤ P ∧ P ≤ 4
        · rw [if_pos h4]
          exact ⟨_, _, _, rfl, Or.inr (Or.inr (Or.inr (Or.inl ⟨h1, h2, h3, h4.1, h4.2, rfl, rfl⟩)))⟩
        · rw [if_neg h4]
          by_cases h5 : P < 1
          · exact ⟨_, _, _, rfl, Or.inr (Or.inr (Or.inr (Or.inr (Or.inl ⟨h1, h2, h3, h5, rfl, rfl⟩))))⟩
          · exact ⟨_, _, _, rfl, Or.inr (Or.inr (Or.inr (Or.inr (Or.inr ⟨h1, h2, h3, by omega, by omega, rfl, rfl⟩))))⟩
    · rw [if_neg (fun c => by have := c.2; rw [decide_eq_false h2, Bool.and_false] at this; cases this)]
      exact ⟨_, _, _, rfl, Or.inr (Or.inl ⟨h1, h2, rfl, rfl⟩)⟩
  · rw [if_neg (fun c => by have := c.2; rw [decide_eq_false h1, Bool.false_and] at this; cases this)]
    exact ⟨_, _, _, rfl, Or.inl ⟨h1, rfl, rfl⟩⟩
theorem find_none (r : Nat) (node P : Int) : findK ⟨r, [], 0, 0, 0, false⟩ node P = (⟨r, [], 0, 0, 0, false⟩, false) := rfl
set_option maxRecDepth 100000 in
set_option maxHeartbeats 8000000 in
theorem odd_law (x : Nat) (hx : x < 18446744073709551616) (node P : Int) (w : World) :
    Calls Try.prog 5 #[.int .u64 (x : Int), .int .i64 node, .int .i64 P] w fun e w' => e = .returned (.bool true) ∧ Below w.heap.size w w' := by
  obtain ⟨ph, pt, r, hf, hway⟩ := odd_ways x node P
  have RC := fun v => rread_any x hx v
  obtain ⟨rd, hrd⟩ : ∃ rd, readR x = rd := ⟨_, rfl⟩
  rw [hrd] at hway RC
  obtain ⟨f, E⟩ := rd
  obtain ⟨fk, fs, fd, fq, fl, fm, fc, fx⟩ := f
  simp only [flv, flc] at hway RC
  have HF : Hid (findK ⟨2, [x], 0, 0, 0, false⟩ node P = (⟨2, [x], ph, pt, 0, false⟩, r)) := hf
  have HP : Hid (∀ V b F, Kn V b ⟨2, [], 0, 0, 0, false⟩ F → Calls Try.prog 12 #[.pointer (some ⟨b, 0, none⟩), .int .u64 (x : Int)] V fun e w' => ∃ F', e = .returned (.int .i64 0) ∧ Kn w' b ⟨2, [x], 0, 0, 0, false⟩ F' ∧ Gr F V w' F') := show _ from fun V b F h => lane_put h x hx
  have HT : Hid (∀ V b F, Kn V b ⟨2, [x], 0, 0, 0, false⟩ F → Calls Try.prog 19 #[.pointer (some ⟨b, 0, none⟩)] V fun e w' => ∃ F', e = .returned (.tuple #[.agg #[.int .i64 0, .int .i64 0, .int .u64 0, .bool false, .bool false], .int .i64 13]) ∧ Kn w' b ⟨2, [x], 0, 0, 0, false⟩ F' ∧ Gr F V w' F') := show _ from fun V b F h => lane_take h
  have LV := lives_any w
  have NC := fun V => lane_new 2 V
  rw [show newK 2 = ⟨2, [], 0, 0, 0, false⟩ from rfl] at NC
  obtain ⟨X, hX⟩ : ∃ X : Int, (x : Int) = X := ⟨_, rfl⟩
  rw [hX] at RC HP ⊢
  clear hf hrd hX hx
  go_enter Try.func5, Try.ntmps5
  go_wp2_with fail
  go_at_call 8
  with_reducible refine LV.mono ?_
  rintro e w1 ⟨rfl, hb1⟩
  have B1 : Hid (Below w.heap.size w w1) := hb1
  clear LV hb1
  go_wp2_with fail
  go_at_call 11
  with_reducible refine (NC _).mono ?_
  rintro e w2 ⟨b, F0, rfl, n0, f0, hb2⟩
  have H0 : Hid (KSt w w2 b ⟨2, [], 0, 0, 0, false⟩ F0) := show KSt w w2 b _ F0 from ⟨n0, fun g hg => Nat.le_trans B1.out.size (f0 g hg), B1.out.trans (hb2.mono B1.out.size)⟩
  clear NC n0 f0 hb2 B1
  go_wp2_with fail
  go_at_call 14
  with_reducible refine (by_any P _).mono ?_
  rintro e w3 ⟨bb, rfl, wy, hb⟩
  have C1 := lane_find (H0.out.next hb).lk node P _ _ wy
  rw [find_none] at C1
  have H1 : Hid (KSt w w3 b ⟨2, [], 0, 0, 0, false⟩ F0) := H0.out.next hb
  clear H0 wy hb
  go_wp2_with fail
  go_at_call 13
  with_reducible refine C1.mono ?_
  rintro e w4 ⟨F1, rfl, n1, g1⟩
  have H2 : Hid (KSt w w4 b ⟨2, [], 0, 0, 0, false⟩ F1) := H1.out.step n1 g1
  have C2 := HP.out w4 b F1 H2.out.lk
  clear C1 H1 n1 g1 HP
  go_wp2_with fail
  go_at_call 12
  with_reducible refine C2.mono ?_
  rintro e w5 ⟨F2, rfl, n2, g2⟩
  have H3 : Hid (KSt w w5 b ⟨2, [x], 0, 0, 0, false⟩ F2) := H2.out.step n2 g2
  clear C2 H2 n2 g2
  go_upto_region 7 with (go_at_call 22; with_reducible refine (RC _).mono ?_; rintro e w6 ⟨rfl, hb6⟩)
  have H4 : Hid (KSt w (w6.alloc (.cells #[.int .i64 fk, .int .i64 fs, .int .i64 fd, .int .i64 fq, .int .i64 fl, .bool fm, .bool fc, .string fx] 49)) b ⟨2, [x], 0, 0, 0, false⟩ F2) := (H3.out.next hb6).alloc _
  have A4 : Hid (Bk (w6.alloc (.cells #[.int .i64 fk, .int .i64 fs, .int .i64 fd, .int .i64 fq, .int .i64 fl, .bool fm, .bool fc, .string fx] 49)) w6.heap.size #[.int .i64 fk, .int .i64 fs, .int .i64 fd, .int .i64 fq, .int .i64 fl, .bool fm, .bool fc, .string fx] 49) := Bk.new _ _ _
  have O4 : Hid (¬ F2 w6.heap.size) := show ¬ F2 w6.heap.size from (H3.out.next hb6).off (Nat.le_refl _)
  clear H3 hb6 RC
  generalize w6.alloc (.cells #[.int .i64 fk, .int .i64 fs, .int .i64 fd, .int .i64 fq, .int .i64 fl, .bool fm, .bool fc, .string fx] 49) = v6 at *
  generalize w6.heap.size = fb at *
  have C3 := HT.out v6 b F2 H4.out.lk
  go_upto_region 8 with (go_at_call 19; with_reducible refine C3.mono ?_; rintro e w7 ⟨F3, rfl, n3, g3⟩)
  have H5 : Hid (KSt w (w7.alloc (.cells #[.int .i64 0, .int .i64 0, .int .u64 0, .bool false, .bool false] 43)) b ⟨2, [x], 0, 0, 0, false⟩ F3) := (H4.out.step n3 g3).alloc _
  have A5 : Hid (Bk (w7.alloc (.cells #[.int .i64 0, .int .i64 0, .int .u64 0, .bool false, .bool false] 43)) fb #[.int .i64 fk, .int .i64 fs, .int .i64 fd, .int .i64 fq, .int .i64 fl, .bool fm, .bool fc, .string fx] 49) := (A4.out.gr g3 O4.out).alloc _
  have O5 : Hid (¬ F3 fb) := show ¬ F3 fb from g3.off O4.out A4.out.lt
  clear C3 H4 A4 O4 n3 g3 HT
  generalize w7.alloc (.cells #[.int .i64 0, .int .i64 0, .int .u64 0, .bool false, .bool false] 43) = v7 at *
  have c0 := A5.out.cell 0
  simp only [List.getElem?_toArray, List.getElem?_cons_zero] at c0
  rcases hway with ⟨h1, rfl, rfl⟩ | ⟨rfl, h2, rfl, rfl⟩ | ⟨rfl, h2, h3, rfl, rfl⟩ | ⟨rfl, h2, h3, h4, h5, rfl, rfl⟩ | ⟨rfl, h2, h3, h4, rfl, rfl⟩ | ⟨rfl, h2, h3, h4, h5, rfl, rfl⟩
  all_goals
    try have h3b : (fd == node) = false := beq_false_of_ne h3
    go_wp2_with fail
    go_at_call 14
    with_reducible refine (by_any P _).mono ?_
    rintro e u1 ⟨bc, rfl, wy, hb⟩
    have C4 := lane_find (H5.out.next hb).lk node P _ _ wy
    rw [HF.out] at C4
    have H6 : Hid (KSt w u1 b ⟨2, [x], 0, 0, 0, false⟩ F3) := H5.out.next hb
    have A6 : Hid (Bk u1 fb #[.int .i64 fk, .int .i64 fs, .int .i64 fd, .int .i64 fq, .int .i64 fl, .bool fm, .bool fc, .string fx] 49) := A5.out.next hb
    clear H5 A5 wy hb c0
    go_wp2_with fail
    go_at_call 13
    with_reducible refine C4.mono ?_
    rintro e u2 ⟨F4, rfl, n4, g4⟩
    have H7 : Hid (KSt w u2 b _ F4) := H6.out.step n4 g4
    have A7 : Hid (Bk u2 fb #[.int .i64 fk, .int .i64 fs, .int .i64 fd, .int .i64 fq, .int .i64 fl, .bool fm, .bool fc, .string fx] 49) := A6.out.gr g4 O5.out
    have C5 := lane_phase H7.out.lk
    clear C4 H6 A6 n4 g4 O5
    have c2 := A7.out.cell 2
    simp only [List.getElem?_toArray, List.getElem?_cons_zero, List.getElem?_cons_succ] at c2
    go_wp2_with fail
    go_at_call 15
    with_reducible refine C5.mono ?_
    rintro e u3 ⟨rfl, hb8⟩
    have H8 : Hid (KSt w u3 b _ F4) := H7.out.next hb8
    have A8 : Hid (Bk u3 fb #[.int .i64 fk, .int .i64 fs, .int .i64 fd, .int .i64 fq, .int .i64 fl, .bool fm, .bool fc, .string fx] 49) := A7.out.next hb8
    have C6 := lane_len H8.out.lk
    simp only [List.length_cons, List.length_nil, Nat.zero_add] at C6
    clear C5 H7 A7 hb8 c2
    have c2 := A8.out.cell 2
    simp only [List.getElem?_toArray, List.getElem?_cons_zero, List.getElem?_cons_succ] at c2
    go_wp2_with fail
    go_at_call 21
    with_reducible refine C6.mono ?_
    rintro e u4 ⟨rfl, hb9⟩
    have B9 : Hid (Below w.heap.size w u4) := (H8.out.next hb9).below
    clear C6 H8 A8 hb9 c2
    go_wp2
    go_ret
    first
      | exact ⟨rfl, B9.out⟩
      | (refine ⟨?_, B9.out⟩
         show Ending.returned (.bool (!decide (P ≤ 4))) = _
         rw [decide_eq_false (by omega)]
         rfl)
end Go.Proofs.Ytkigeakaedkjpaa
