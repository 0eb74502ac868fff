/-
  The walk of the law RingMany.
-/
import Derived.Test.YtfphelhgfjdjoaaRow
import Derived.Deep.RegionHeld3
import Derived.Lib.Hide
namespace Go.Proofs.Ytfphelhgfjdjoaa
open Go.RowKit

theorem pushAll_is (l : List Int) : ∀ s : RingSt, s.laid = false → 0 ≤ s.free →
    (pushAll s l).1 = min l.length s.free.toNat ∧ (pushAll s l).2.xs = s.xs ++ l.take s.free.toNat := by
  induction l with
  | nil => intro s _ _; simp [pushAll]
  | cons v r ih =>
    intro s h1 h2
    by_cases h0 : s.free = 0
    · have : layE s = 7 := by simp [layE, h1, h0]
      rw [pushAll, this, if_neg (by omega), h0]; simp
    · have e : layE s = 0 := by simp [layE, h1, h0]
      have e2 : pushS s v = (s.lay v).published := by simp [pushS, e]
      have e3 : ((s.lay v).published).free = s.free - 1 := by
        simp [RingSt.free, RingSt.lay, RingSt.published, one, h1]; omega
      obtain ⟨i1, i2⟩ := ih (s.lay v).published rfl (by omega)
      rw [pushAll, if_pos e, e2]
      rw [e3] at i1 i2
      refine ⟨?_, ?_⟩
      · show _ + 1 = _; rw [i1]; simp; omega
      · show ((pushAll _ r).2).xs = _
        rw [i2, show s.free.toNat = (s.free - 1).toNat + 1 by omega]
        simp [RingSt.lay, RingSt.published]

theorem ints_rd {w : World} {B : Nat} {v : Value} {l : List Int} (h : Ints w B v l) : ∃ a cap, v = .slice a l.length cap ∧ l.length ≤ cap ∧ cap ≤ maxLen ∧ Rd w a l (fun g => B ≤ g) := by
  have h' := h
  obtain ⟨h1, h2⟩ := h
  rcases h2 with ⟨rfl, h2⟩ | ⟨g, cap, cur, rfl, hg, hh, hc1, hc2, hc3, hc4⟩
  · exact ⟨none, 0, by rw [h2], by omega, by simp [maxLen], fun j hj => by omega⟩
  · obtain ⟨a, cap', e, hS⟩ := ints_form h'
    simp only [Value.slice.injEq] at e
    obtain ⟨rfl, _, rfl⟩ := e
    exact ⟨_, _, rfl, hc1, hc2, hS.rd⟩

theorem same_is (w : World) (a1 a2 : Option Addr) (n1 n2 c1 c2 : Nat) (l1 l2 : List Int) (G1 G2 : Nat → Prop) (h1 : Rd w a1 l1 G1) (h2 : Rd w a2 l2 G2) (e1 : l1.length = n1) (e2 : l2.length = n2) (b1 : n1 ≤ 1000000) (b2 : n2 ≤ 1000000) (r : Bool) (hr : decide (l1 = l2) = r) :
    Calls Try.prog 17 #[.slice a1 n1 c1, .slice a2 n2 c2] w fun e w' => e = .returned (.bool r) ∧ ∃ n, w' = w.drewN n := by
  subst e1 e2 hr
  exact same_any w a1 a2 c1 c2 l1 l2 G1 G2 h1 h2 b1 b2

section
variable {w : World} {b pb m : Nat} {s : RingSt}
/-- All, said by what its slice reads as. -/
theorem all_is (h : RingAt w b pb m s) (l : List Int) (n : Nat) (hl : s.xs = l) (hn : l.length = n) :
    Calls Try.prog 21 #[.pointer (some ⟨b, 0, none⟩)] w fun e w' => ∃ a cap, e = .returned (.slice a n cap) ∧ n ≤ cap ∧ cap ≤ maxLen ∧ Rd w' a l (fun g => w.heap.size ≤ g) ∧ Below w.heap.size w w' := by
  subst hl hn
  refine (ring_all h).mono ?_
  rintro e w' ⟨v, rfl, hI, hB⟩
  obtain ⟨a, cap, rfl, h1, h2, h3⟩ := ints_rd hI
  exact ⟨a, cap, rfl, h1, h2, h3, hB⟩
theorem all_heap {W : World} (h : RingAt w b pb m s) (hW : W.heap = w.heap ∧ W.os = w.os ∧ W.tape = w.tape ∧ W.output = w.output) (l : List Int) (n : Nat) (hl : s.xs = l) (hn : l.length = n) :
    Calls Try.prog 21 #[.pointer (some ⟨b, 0, none⟩)] W fun e w' => ∃ a cap, e = .returned (.slice a n cap) ∧ n ≤ cap ∧ cap ≤ maxLen ∧ Rd w' a l (fun g => w.heap.size ≤ g) ∧ Below w.heap.size w w' := by
  obtain ⟨h1, h2, h3, h4⟩ := hW
  refine (all_is (h.keep (w' := W) (by rw [h1]) (by rw [h1])) l n hl hn).mono ?_
  rintro e w' ⟨a, cap, e1, e2, e3, e4, e5⟩
  rw [h1] at e4
  exact ⟨a, cap, e1, e2, e3, e4, ⟨e5.os.trans h2, e5.tape.trans h3, e5.output.trans h4, by rw [← h1]; exact e5.size, fun k hk => by rw [← h1]; exact e5.block k (by rw [h1]; exact hk)⟩⟩
end

theorem Rd.drop {w : World} {a : Option Addr} {l : List Int} {G : Nat → Prop} (h : Rd w a l G) (k cap : Nat) (hc : l.length ≤ cap) :
    Rd w (if cap = k then a else Option.map (fun x => x.add k) a) (l.drop k) G := fun j hj => by
  simp at hj
  obtain ⟨g, off, rfl, h2, h3, h4⟩ := h (k + j) (by omega)
  rw [if_neg (by omega)]
  refine ⟨g, off + k, by simp [WideShapes.add_plain], h2, h3, ?_⟩
  rw [Nat.add_assoc, h4]
  simp

theorem rd_up {w w' : World} {a : Option Addr} {l : List Int} {B S : Nat} (h : Rd w a l (fun g => g < B)) (hb : Below S w w') (hS : B ≤ S) : Rd w' a l (fun g => g < B) :=
  h.keep hb.size (fun _ hg _ => hb.block _ (Nat.lt_of_lt_of_le hg hS))

theorem rd_nil0 (w : World) (a : Option Addr) (G : Nat → Prop) : Rd w a [] G := fun j hj => absurd hj (Nat.not_lt_zero j)

theorem Rd.dropOr (a : Option Addr) (l : List Int) (G : Nat → Prop) (k cap : Nat) (hc : l.length ≤ cap) (hk : k ≤ l.length) :
    (cap = k ∧ ∀ w : World, Rd w a l G → Rd w a (l.drop k) G) ∨ (¬ cap = k ∧ ∀ w : World, Rd w a l G → Rd w (Option.map (fun x => x.add k) a) (l.drop k) G) := by
  by_cases h : cap = k
  · refine .inl ⟨h, fun w _ j hj => ?_⟩
    simp at hj; omega
  · refine .inr ⟨h, fun w hr => ?_⟩
    have := hr.drop k cap hc
    rw [if_neg h] at this
    exact this

set_option maxRecDepth 100000 in
set_option maxHeartbeats 4000000 in
theorem ringMany_any (w : World) (room : Int) (a : Option Addr) (n cap : Nat) (l : List Int) (most : Int) (hn : n = l.length) (hlc : n ≤ cap) (hcm : cap ≤ maxLen) (hr : Rd w a l (fun _ => True)) :
    Calls Try.prog 6 #[.int .i64 room, .slice a n cap, .int .i64 most] w fun e w' => e = .returned (.bool true) ∧ Below w.heap.size w w' := by
  unfold maxLen at hcm
  have V := lives_any w
  have hr' : Rd w a (l.take 30) (fun g => g < w.heap.size) := (hr.take 30).mono fun g h _ => h
  obtain ⟨N, hN⟩ : ∃ N, N = min n 30 := ⟨_, rfl⟩
  have HN : Hid ((l.take 30).length = N) := by show _ = _; rw [hN, hn, List.length_take]; omega
  have hN30 : N ≤ 30 := by omega
  clear hr
  generalize l.take 30 = ls at *
  obtain ⟨B, hB⟩ : ∃ B, B = w.heap.size := ⟨_, rfl⟩
  rw [← hB] at V hr' ⊢
  have HB : Hid (B = w.heap.size) := hB
  have HR : Hid (Rd w a ls (fun g => g < B)) := hr'
  clear hB hn hr'
  have hcase : (n < 30 ∧ N = n) ∨ (30 < n ∧ N = 30) ∨ (n = 30 ∧ N = 30) := by omega
  clear hN
  rcases hcase with ⟨hn3, rfl⟩ | ⟨hn3, rfl⟩ | ⟨rfl, rfl⟩
  all_goals
    go_enter Try.func6, Try.ntmps6
    go_wp2_with fail
    go_at_call 10
    refine V.mono ?_
    rintro e w1 ⟨rfl, hb1⟩
    clear V
    go_wp2_with fail
    have hrm : 1 ≤ wrap64 (1 + wrap64 ((IntKind.u64.wrap room).tmod 12)) ∧ wrap64 (1 + wrap64 ((IntKind.u64.wrap room).tmod 12)) ≤ 12 := by
      have := urange room 12 (by omega) (by omega)
      generalize wrap64 ((IntKind.u64.wrap room).tmod 12) = z at *
      unfold wrap64; omega
    generalize wrap64 (1 + wrap64 ((IntKind.u64.wrap room).tmod 12)) = rm0 at *
    obtain ⟨hrm1, hrm2⟩ := hrm
    obtain ⟨rm, rfl⟩ := Int.eq_ofNat_of_zero_le (show 0 ≤ rm0 by omega)
    go_at_call 11
    refine (new_any _ 0 _ (by omega)).mono ?_
    rintro e w2 ⟨rfl, hR, hb2⟩
    have hb3 := hR.lt
    obtain ⟨b, hb⟩ : ∃ b, b = w1.heap.size := ⟨_, rfl⟩
    rw [← hb] at hR hb2 ⊢
    have hbB : B ≤ b := by have := hb1.size; have := HB.out; omega
    have hbel : Below B w w2 := hb1.trans (hb2.mono hbB)
    obtain ⟨p1, p2⟩ := pushAll_is ls ⟨rm, 0, 0, false, 0, []⟩ rfl (by simp [RingSt.free, one]; omega)
    have hfree : (⟨rm, 0, 0, false, 0, []⟩ : RingSt).free.toNat = rm := by simp [RingSt.free, one]; omega
    rw [hfree] at p1 p2
    have hP := ring_pushAll' hR a _ cap ls HN.out.symm (by rw [HN.out]; omega) (((HR.out.keep (w' := w2) hbel.size (fun g hg _ => hbel.block g hg)).mono fun g _ h => by have := hbB; show g ≠ b ∧ g ≠ b; omega))
    rw [p1] at hP
    generalize (pushAll ⟨rm, 0, 0, false, 0, []⟩ ls).2 = s2 at *
    obtain ⟨c, hc⟩ : ∃ c, c = min ls.length rm := ⟨_, rfl⟩
    rw [← hc] at hP
    simp only [List.nil_append] at p2
    have HC : Hid (c = min ls.length rm) := hc
    have hx2 : s2.xs = ls.take c := by rw [p2, List.take_eq_take_iff]; omega
    have hxl : (ls.take c).length = c := by rw [List.length_take]; omega
    have HX : Hid (s2.xs = ls.take c ∧ (ls.take c).length = c) := ⟨hx2, hxl⟩
    clear hc p2 hx2 hxl
    clear p1 hfree hb hb1 hb2 hb3 hR
    go_wp2_with fail
    go_at_call 29
    refine hP.mono ?_
    rintro e w3 ⟨rfl, pb, m, hR, hF, hpb⟩
    have hbel3 : Below B w w3 := hbel.trans (hF.below hbB hbB (by have := hbel.size; have := HB.out; omega))
    clear hP
    have hR3 : Rd w3 a (ls.take c) (fun g => g < B) := (HR.out.keep hbel3.size (fun g hg _ => hbel3.block g hg)).take c
    have A := all_heap (W := w3.drew) hR ⟨rfl, rfl, rfl, rfl⟩ (ls.take c) c HX.out.1 HX.out.2
    have hRl := hR.lt
    have HR3 : Hid (RingAt w3 b pb m s2) := hR
    have HP : Hid (pb = b ∨ w2.heap.size ≤ pb) := hpb
    have hsz3 : B ≤ w3.heap.size := by have := hbel3.size; have := HB.out; omega
    clear hR hpb hF
    rcases (by omega : ls.length < rm ∨ rm < ls.length ∨ rm = ls.length) with hx | hx | hx
    all_goals rw [HN.out] at hx
    all_goals try (exfalso; omega)
    all_goals
      have hcc : c = min ls.length rm := HC.out
      clear HC
      rw [HN.out] at hcc
      have hc1 : (c : Int) ≤ cap := by omega
      have hc0 : (0 : Int) ≤ c := by omega
      have hc2 : c ≤ 30 := by omega
      have HC2 : Hid (c ≤ 30) := hc2
      have h1m : c ≤ 1000000 := by omega
      clear hc2
      first
        | (rw [Nat.min_eq_left (Nat.le_of_lt hx)] at hcc; have hy := Nat.lt_asymm hx)
        | (rw [Nat.min_eq_right (Nat.le_of_lt hx)] at hcc; have hy : (rm : Int) < _ := Int.ofNat_lt.mpr hx; try simp only [Int.cast_ofNat_Int] at hy)
        | (subst hx; rw [Nat.min_self] at hcc)
      subst hcc
      try simp only [Int.cast_ofNat_Int] at hc1 hc0
      go_wp2_with fail
      go_region_held3 (fun _ => True) (trivial) (first
        | (go_at_call 21; (with_reducible refine A.mono ?_); rintro e w4 ⟨a4, cap4, rfl, q1, q2, hR4, hB4⟩; have hR4' := rd_up hR3 hB4 hsz3)
        | (go_at_call 17; (with_reducible refine (same_is _ _ _ _ _ _ _ _ _ _ _ hR4 hR4' HX.out.2 HX.out.2 h1m h1m true (decide_eq_true rfl)).mono ?_); rintro e w' ⟨rfl, n9, rfl⟩))
      go_wp2_with fail
      have hb4 : Below B w w4 := hbel3.trans ⟨hB4.os, hB4.tape, hB4.output, hB4.size, fun k hk => hB4.block k (by show k < w3.heap.size; omega)⟩
      have hRR : RingAt w4 b pb m s2 := HR3.out.keep (hB4.block b hRl.1) (hB4.block pb hRl.2)
      have Q := fun n => ring_popSome (hRR.drewN n) most
      rw [HX.out.1, HX.out.2] at Q
      clear hR4 hR4' hB4 A hR3
      have hpbB : B ≤ pb := by have := HP.out; have := hbel.size; have := HB.out; omega
      rcases (by omega : most < 0 ∨ (0 ≤ most ∧ most ≤ (↑c : Int)) ∨ (↑c : Int) < most) with hm | ⟨hm, hm2⟩ | hm
      · have hK : (min most ((c : Nat) : Int)).toNat = 0 := by omega
        rw [hK] at Q
        clear hK
        go_at_call 30
        refine (Q _).mono ?_
        rintro e w5 ⟨v, rfl, hI, hR5, hF5⟩
        obtain ⟨a5, cap5, rfl, r1, r2, hRd5⟩ := ints_rd hI
        have hl5 : (List.take 0 (ls.take c)).length = 0 := by rw [List.length_take, HX.out.2]; omega
        rw [hl5] at r1 ⊢
        have hb5 : Below B (w4.drewN n9) w5 := hF5.below hbB hpbB (by show B ≤ w4.heap.size; have := hb4.size; have := HB.out; omega)
        have hb05 : Below B w w5 := (below_drewN hb4 _).trans hb5
        have hRa : Rd w5 a (ls.take c) (fun g => g < B) := (HR.out.keep hb05.size (fun g hg _ => hb05.block g hg)).take c
        have hsz5 : B ≤ w5.heap.size := by have := hb05.size; have := HB.out; omega
        have hKc : ((0 : Nat) : Int) ≤ ((c : Nat) : Int) := by omega
        have hKcap : ((0 : Nat) : Int) ≤ (cap : Int) := by omega
        have hK0 : (0 : Int) ≤ ((0 : Nat) : Int) := by omega
        have HS5 : Hid (RingAt w5 b pb m (popSome s2 0)) := hR5
        have hx5 : (popSome s2 0).xs = (ls.take c).drop 0 := by rw [popSome_xs, HX.out.1]
        have hlx5 : ((ls.take c).drop 0).length = c - 0 := by rw [List.length_drop, HX.out.2]
        have hRd5' : Rd w5.drew a5 (List.take 0 (ls.take c)) _ := hRd5
        have hRa5 : Rd w5.drew a (ls.take 0) (fun g => g < B) := by have := hRa.take 0; rw [List.take_take, Nat.min_eq_left (by omega)] at this; exact this
        have S1 := fun c1 c2 => same_is w5.drew a5 a 0 0 c1 c2 _ _ _ _ hRd5' hRa5 hl5 (by rw [List.length_take, List.length_take] at hl5; rw [List.length_take]; omega) (by have := HC2.out; omega) (by have := HC2.out; omega) true (by rw [List.take_take, Nat.min_eq_left (by omega)]; simp)
        have HL : Hid (((ls.take c).drop 0).length = c - 0 ∧ (popSome s2 0).xs = (ls.take c).drop 0 ∧ (ls.take c).length ≤ cap) := ⟨hlx5, hx5, by rw [HX.out.2]; omega⟩
        have A5 := fun n => all_heap (W := w5.drewN n) HS5.out ⟨rfl, rfl, rfl, rfl⟩ _ _ HL.out.2.1 HL.out.1
        clear Q hI hR5 hF5 hRd5 hRd5' hRa5 hb5 hl5 hx5 hlx5
        rw [List.drop_zero, Nat.sub_zero] at A5
        rcases Rd.dropOr a (ls.take c) (fun g => g < B) 0 cap HL.out.2.2 (Nat.zero_le _) with ⟨hcK, hDr0⟩ | ⟨hcK, hDr0⟩
        all_goals simp only [List.drop_zero] at hDr0
        · obtain rfl : c = 0 := by omega
          subst hcK
          have hDr := Lib.hid hDr0
          clear hDr0
          go_wp2_with fail
          go_region_held3 (fun _ => True) (trivial) (first
            | (go_at_call 17; (with_reducible refine (S1 _ _).mono ?_); rintro e w6 ⟨rfl, n6, rfl⟩)
            | (go_at_call 21; (with_reducible refine (A5 _).mono ?_); rintro e w7 ⟨a7, cap7, rfl, q1, q2, hR7, hB7⟩
               have hRa7 := rd_up hRa hB7 hsz5)
            | (go_at_call 17; (with_reducible refine (same_is _ _ _ _ _ _ _ _ _ _ _ hR7 hRa7 HX.out.2 HX.out.2 h1m h1m true (decide_eq_true rfl)).mono ?_); rintro e w8 ⟨rfl, n8, rfl⟩)
            | (go_at_call 17; (with_reducible refine (same_is _ _ _ _ _ _ _ _ _ _ _ hR7 (hDr.out _ hRa7) HX.out.2 HX.out.2 h1m h1m true (decide_eq_true rfl)).mono ?_); rintro e w8 ⟨rfl, n8, rfl⟩))
          go_wp2
          go_ret
          exact ⟨rfl, below_drewN (hb05.trans ⟨hB7.os, hB7.tape, hB7.output, hB7.size, fun k hk => hB7.block k (by show k < w5.heap.size; omega)⟩) _⟩
        · have hcz : (0 : Int) ≤ (cap : Int) := by omega
          have hDr := Lib.hid hDr0
          clear hDr0
          go_wp2_with fail
          go_region_held3 (fun _ => True) (trivial) (first
            | (go_at_call 17; (with_reducible refine (S1 _ _).mono ?_); rintro e w6 ⟨rfl, n6, rfl⟩)
            | (go_at_call 21; (with_reducible refine (A5 _).mono ?_); rintro e w7 ⟨a7, cap7, rfl, q1, q2, hR7, hB7⟩
               have hRa7 := rd_up hRa hB7 hsz5)
            | (go_at_call 17; (with_reducible refine (same_is _ _ _ _ _ _ _ _ _ _ _ hR7 hRa7 HX.out.2 HX.out.2 h1m h1m true (decide_eq_true rfl)).mono ?_); rintro e w8 ⟨rfl, n8, rfl⟩)
            | (go_at_call 17; (with_reducible refine (same_is _ _ _ _ _ _ _ _ _ _ _ hR7 (hDr.out _ hRa7) HX.out.2 HX.out.2 h1m h1m true (decide_eq_true rfl)).mono ?_); rintro e w8 ⟨rfl, n8, rfl⟩))
          go_wp2
          go_ret
          exact ⟨rfl, below_drewN (hb05.trans ⟨hB7.os, hB7.tape, hB7.output, hB7.size, fun k hk => hB7.block k (by show k < w5.heap.size; omega)⟩) _⟩
      · obtain ⟨K, rfl⟩ := Int.eq_ofNat_of_zero_le hm
        have hK : (min (K : Int) ((c : Nat) : Int)).toNat = K := by omega
        rw [hK] at Q
        clear hK
        go_at_call 30
        refine (Q _).mono ?_
        rintro e w5 ⟨v, rfl, hI, hR5, hF5⟩
        obtain ⟨a5, cap5, rfl, r1, r2, hRd5⟩ := ints_rd hI
        have hl5 : (List.take K (ls.take c)).length = K := by rw [List.length_take, HX.out.2]; omega
        rw [hl5] at r1 ⊢
        have hb5 : Below B (w4.drewN n9) w5 := hF5.below hbB hpbB (by show B ≤ w4.heap.size; have := hb4.size; have := HB.out; omega)
        have hb05 : Below B w w5 := (below_drewN hb4 _).trans hb5
        have hRa : Rd w5 a (ls.take c) (fun g => g < B) := (HR.out.keep hb05.size (fun g hg _ => hb05.block g hg)).take c
        have hsz5 : B ≤ w5.heap.size := by have := hb05.size; have := HB.out; omega
        have hKc : ((K : Nat) : Int) ≤ ((c : Nat) : Int) := by omega
        have hKcap : ((K : Nat) : Int) ≤ (cap : Int) := by omega
        have hK0 : (0 : Int) ≤ ((K : Nat) : Int) := by omega
        have HS5 : Hid (RingAt w5 b pb m (popSome s2 K)) := hR5
        have hx5 : (popSome s2 K).xs = (ls.take c).drop K := by rw [popSome_xs, HX.out.1]
        have hlx5 : ((ls.take c).drop K).length = c - K := by rw [List.length_drop, HX.out.2]
        have hRd5' : Rd w5.drew a5 (List.take K (ls.take c)) _ := hRd5
        have hRa5 : Rd w5.drew a (ls.take K) (fun g => g < B) := by have := hRa.take K; rw [List.take_take, Nat.min_eq_left (by omega)] at this; exact this
        have S1 := fun c1 c2 => same_is w5.drew a5 a K K c1 c2 _ _ _ _ hRd5' hRa5 hl5 (by rw [List.length_take, List.length_take] at hl5; rw [List.length_take]; omega) (by have := HC2.out; omega) (by have := HC2.out; omega) true (by rw [List.take_take, Nat.min_eq_left (by omega)]; simp)
        have HL : Hid (((ls.take c).drop K).length = c - K ∧ (popSome s2 K).xs = (ls.take c).drop K ∧ (ls.take c).length ≤ cap) := ⟨hlx5, hx5, by rw [HX.out.2]; omega⟩
        have A5 := fun n => all_heap (W := w5.drewN n) HS5.out ⟨rfl, rfl, rfl, rfl⟩ _ _ HL.out.2.1 HL.out.1
        clear Q hI hR5 hF5 hRd5 hRd5' hRa5 hb5 hl5 hx5 hlx5
        rcases Rd.dropOr a (ls.take c) (fun g => g < B) K cap HL.out.2.2 (by rw [HX.out.2]; omega) with ⟨hcK, hDr0⟩ | ⟨hcK, hDr0⟩
        · first
          | (exfalso; omega)
          | (
              have hck : c - K = 0 := by omega
              have hnl : List.drop K (List.take c ls) = [] := List.length_eq_zero_iff.1 (by rw [HL.out.1]; exact hck)
              rw [hnl, hck] at A5
              have hKc : c = K := by omega
              clear hDr0 hnl hck
              subst hKc
              go_wp2_with fail
              go_region_held3 (fun _ => True) (trivial) (first
                | (go_at_call 17; (with_reducible refine (S1 _ _).mono ?_); rintro e w6 ⟨rfl, n6, rfl⟩)
                | (go_at_call 21; (with_reducible refine (A5 _).mono ?_); rintro e w7 ⟨a7, cap7, rfl, q1, q2, hR7, hB7⟩)
                | (go_at_call 17; (with_reducible refine (same_is _ _ _ 0 0 _ _ [] [] _ (fun _ => True) hR7 (rd_nil0 _ _ _) rfl rfl (Nat.zero_le _) (Nat.zero_le _) true rfl).mono ?_); rintro e w8 ⟨rfl, n8, rfl⟩))
              go_wp2
              go_ret
              exact ⟨rfl, below_drewN (hb05.trans ⟨hB7.os, hB7.tape, hB7.output, hB7.size, fun k hk => hB7.block k (by show k < w5.heap.size; omega)⟩) _⟩)
        · have hDr := Lib.hid hDr0
          have h1mK : c - K ≤ 1000000 := by omega
          clear hDr0
          go_wp2_with fail
          go_region_held3 (fun _ => True) (trivial) (first
            | (go_at_call 17; (with_reducible refine (S1 _ _).mono ?_); rintro e w6 ⟨rfl, n6, rfl⟩)
            | (go_at_call 21; (with_reducible refine (A5 _).mono ?_); rintro e w7 ⟨a7, cap7, rfl, q1, q2, hR7, hB7⟩
               have hRa7 := rd_up hRa hB7 hsz5)
            | (go_at_call 17; (with_reducible refine (same_is _ _ _ _ _ _ _ _ _ _ _ hR7 (hDr.out _ hRa7) HL.out.1 HL.out.1 h1mK h1mK true (decide_eq_true rfl)).mono ?_); rintro e w8 ⟨rfl, n8, rfl⟩))
          go_wp2
          go_ret
          exact ⟨rfl, below_drewN (hb05.trans ⟨hB7.os, hB7.tape, hB7.output, hB7.size, fun k hk => hB7.block k (by show k < w5.heap.size; omega)⟩) _⟩
      · have HMC := Lib.hid hm
        have hK : (min most ((c : Nat) : Int)).toNat = c := by omega
        rw [hK] at Q
        clear hK
        go_at_call 30
        refine (Q _).mono ?_
        rintro e w5 ⟨v, rfl, hI, hR5, hF5⟩
        obtain ⟨a5, cap5, rfl, r1, r2, hRd5⟩ := ints_rd hI
        have hl5 : (List.take c (ls.take c)).length = c := by rw [List.length_take, HX.out.2]; omega
        rw [hl5] at r1 ⊢
        have hb5 : Below B (w4.drewN n9) w5 := hF5.below hbB hpbB (by show B ≤ w4.heap.size; have := hb4.size; have := HB.out; omega)
        have hb05 : Below B w w5 := (below_drewN hb4 _).trans hb5
        have hRa : Rd w5 a (ls.take c) (fun g => g < B) := (HR.out.keep hb05.size (fun g hg _ => hb05.block g hg)).take c
        have hsz5 : B ≤ w5.heap.size := by have := hb05.size; have := HB.out; omega
        have hKc : ((c : Nat) : Int) ≤ ((c : Nat) : Int) := by omega
        have hKcap : ((c : Nat) : Int) ≤ (cap : Int) := by omega
        have hK0 : (0 : Int) ≤ ((c : Nat) : Int) := by omega
        have HS5 : Hid (RingAt w5 b pb m (popSome s2 c)) := hR5
        have hx5 : (popSome s2 c).xs = (ls.take c).drop c := by rw [popSome_xs, HX.out.1]
        have hlx5 : ((ls.take c).drop c).length = c - c := by rw [List.length_drop, HX.out.2]
        have hRd5' : Rd w5.drew a5 (List.take c (ls.take c)) _ := hRd5
        have hRa5 : Rd w5.drew a (ls.take c) (fun g => g < B) := by have := hRa.take c; rw [List.take_take, Nat.min_eq_left (by omega)] at this; exact this
        have S1 := fun c1 c2 => same_is w5.drew a5 a c c c1 c2 _ _ _ _ hRd5' hRa5 hl5 (by rw [List.length_take, List.length_take] at hl5; rw [List.length_take]; omega) (by have := HC2.out; omega) (by have := HC2.out; omega) true (by rw [List.take_take, Nat.min_eq_left (by omega)]; simp)
        have HL : Hid (((ls.take c).drop c).length = c - c ∧ (popSome s2 c).xs = (ls.take c).drop c ∧ (ls.take c).length ≤ cap) := ⟨hlx5, hx5, by rw [HX.out.2]; omega⟩
        have A5 := fun n => all_heap (W := w5.drewN n) HS5.out ⟨rfl, rfl, rfl, rfl⟩ _ _ HL.out.2.1 HL.out.1
        clear Q hI hR5 hF5 hRd5 hRd5' hRa5 hb5 hl5 hx5 hlx5
        have hnl : List.drop c (List.take c ls) = [] := List.length_eq_zero_iff.1 (by rw [HL.out.1]; omega)
        rw [hnl, Nat.sub_self] at A5
        clear hnl
        rcases (by omega : cap = c ∨ ¬ cap = c) with hcK | hcK
        all_goals
          go_wp2_with fail
          go_region_held3 (fun _ => True) (trivial) (first
            | (go_at_call 17; (with_reducible refine (S1 _ _).mono ?_); rintro e w6 ⟨rfl, n6, rfl⟩)
            | (go_at_call 21; (with_reducible refine (A5 _).mono ?_); rintro e w7 ⟨a7, cap7, rfl, q1, q2, hR7, hB7⟩)
            | (go_at_call 17; (with_reducible refine (same_is _ _ _ 0 0 _ _ [] [] _ (fun _ => True) hR7 (rd_nil0 _ _ _) rfl rfl (Nat.zero_le _) (Nat.zero_le _) true rfl).mono ?_); rintro e w8 ⟨rfl, n8, rfl⟩))
          go_wp2
          go_ret
          exact ⟨rfl, below_drewN (hb05.trans ⟨hB7.os, hB7.tape, hB7.output, hB7.size, fun k hk => hB7.block k (by show k < w5.heap.size; omega)⟩) _⟩

end Go.Proofs.Ytfphelhgfjdjoaa
