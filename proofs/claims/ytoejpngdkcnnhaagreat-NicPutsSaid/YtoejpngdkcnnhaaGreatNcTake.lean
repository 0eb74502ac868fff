/-
  The program's nic: at, Take. (Written by gen_ntake.py.)
-/
import Derived.Test.YtoejpngdkcnnhaaGreatNcPut
import Derived.Test.YtoejpngdkcnnhaaGreatJn
namespace Go.Proofs.YtoejpngdkcnnhaaGreat
open Go.RowKit

theorem at_in (b p l : Nat) (x : Value) (w : World) (hp : p < 5) (hl : l < 8) (hc : w.cell? ⟨b, 14 + (p * 8 + l), none⟩ = some x) : Calls Tryz.prog 36 #[.pointer (some ⟨b, 0, none⟩), .int .i64 p, .int .i64 l] w fun e w' => e = .returned x ∧ w = w' := by
  have q5 : 14 + (p * 8 + l) = 14 + p * 8 + l := by omega
  rw [q5] at hc
  have q1 : (0 : Int) ≤ (p : Int) := by omega
  have q2 : (p : Int) < 5 := by omega
  have q3 : (0 : Int) ≤ (l : Int) := by omega
  have q4 : (l : Int) < 8 := by omega
  have q6 : ¬ (5 : Int) ≤ (p : Int) := by omega
  have q7 : ¬ (8 : Int) ≤ (l : Int) := by omega
  have q8 : ¬ (p : Int) < 0 := by omega
  have q9 : ¬ (l : Int) < 0 := by omega
  clear hp hl q5
  go_enter Tryz.func36, Tryz.ntmps36
  go_wp2
  go_ret
  exact ⟨rfl, rfl⟩
theorem at_out (b : Nat) (p l : Int) (w : World) (h : p < 0 ∨ 5 ≤ p ∨ l < 0 ∨ 8 ≤ l) : Calls Tryz.prog 36 #[.pointer (some ⟨b, 0, none⟩), .int .i64 p, .int .i64 l] w fun e w' => e = .returned (.pointer none) ∧ w = w' := by
  rcases h with h | h | h | h
  · go_enter Tryz.func36, Tryz.ntmps36
    go_wp2
    go_ret
    exact ⟨rfl, rfl⟩
  · have h2 : ¬ p < 0 := by omega
    go_enter Tryz.func36, Tryz.ntmps36
    go_wp2
    go_ret
    exact ⟨rfl, rfl⟩
  · by_cases h2 : p < 0
    · go_enter Tryz.func36, Tryz.ntmps36
      go_wp2
      go_ret
      exact ⟨rfl, rfl⟩
    by_cases h3 : 5 ≤ p
    · go_enter Tryz.func36, Tryz.ntmps36
      go_wp2
      go_ret
      exact ⟨rfl, rfl⟩
    go_enter Tryz.func36, Tryz.ntmps36
    go_wp2
    go_ret
    exact ⟨rfl, rfl⟩
  · by_cases h2 : p < 0
    · go_enter Tryz.func36, Tryz.ntmps36
      go_wp2
      go_ret
      exact ⟨rfl, rfl⟩
    by_cases h3 : 5 ≤ p
    · go_enter Tryz.func36, Tryz.ntmps36
      go_wp2
      go_ret
      exact ⟨rfl, rfl⟩
    have h4 : ¬ l < 0 := by omega
    go_enter Tryz.func36, Tryz.ntmps36
    go_wp2
    go_ret
    exact ⟨rfl, rfl⟩
set_option maxRecDepth 100000 in
/-- Where there is no such port or lane. -/
theorem take_none (_n b : Nat) (a : Option Addr) (p l : Int) (W : Nat) (w w1 : World) (hb1 : Below w.heap.size w w1) (CL : Calls Tryz.prog 28 #[.pointer a] w fun e w' => e = .returned (.pointer (some ⟨b, 0, none⟩)) ∧ w1 = w') (CA : Calls Tryz.prog 36 #[.pointer (some ⟨b, 0, none⟩), .int .i64 p, .int .i64 l] w1 fun e w' => e = .returned (.pointer none) ∧ w1 = w') :
    Calls Tryz.prog 18 #[.pointer a, .int .i64 p, .int .i64 l, .int .u64 (W : Int)] w fun e w' => e = .returned (.int .i64 1) ∧ Below w.heap.size w w' := by
  have CT := take_nil W w1
  simp only [pkv, pkc] at CT
  have HB : Hid (Below w.heap.size w w1) := hb1
  clear hb1
  go_enter Tryz.func18, Tryz.ntmps18
  go_wp2_with fail
  go_at_call 28
  with_reducible refine CL.mono ?_
  rintro e v ⟨rfl, rfl⟩
  go_wp2_with fail
  go_at_call 36
  with_reducible refine CA.mono ?_
  rintro e v ⟨rfl, rfl⟩
  go_wp2_with (go_at_call 37; with_reducible refine CT.mono ?_; rintro e v2 ⟨rfl, b2⟩)
  go_ret
  exact ⟨rfl, (HB.out.trans (b2.mono HB.out.size)).alloc (Nat.le_trans HB.out.size b2.size) _⟩
/-- A packet, as the inbox has it. -/
abbrev toI (p : Pk) : I.Pk := ⟨p.s, p.d, p.q, p.x⟩
/-- A word that comes: the error, and the inbox behind it. -/
def tkE (X : I.IS) (j : JS) (W : Nat) : Int := if (takeR j W).2.2.1 = true then I.comeE X (toI (takeR j W).2.1) else (takeR j W).2.2.2
def tkS (X : I.IS) (j : JS) (W : Nat) : I.IS := if (takeR j W).2.2.1 = true then I.comeS X (toI (takeR j W).2.1) else X
theorem Gb.ix {w0 w v : World} {ib jb : Nat} {X : I.IS} {O : Nat → Prop} (h : I.Ix w0 w ib X O) (hg : Gb jb w v) (ho : O jb) (h0 : w0.heap.size ≤ jb) : I.Ix w0 v ib X O ∧ I.Kp (fun g => O g ∧ g ≠ jb) w v :=
  ⟨h.grow hg.out (fun q e => by cases e; exact ⟨ho, h0⟩) (fun g hgo => ⟨Or.inl hgo, Nat.lt_of_lt_of_le (h.lt g hgo) hg.size⟩), hg.size, fun g ⟨hgo, hne⟩ => hg.out.block g (h.lt g hgo) fun e => hne (Option.some.inj e)⟩
theorem kp_below {O : Nat → Prop} {w v : World} (hb : Below w.heap.size w v) (hlt : ∀ g, O g → g < w.heap.size) : I.Kp O w v := ⟨hb.size, fun g hg => hb.block g (hlt g hg)⟩
set_option maxRecDepth 100000 in
set_option maxHeartbeats 4000000 in
theorem nic_take {w0 w : World} {b ib jb : Nat} {S : Nc} {cu : Value} {J : Nat → Value} {X : I.IS} {O : Nat → Prop} {j : JS} {p l W : Nat} (hN : Nb w b ib S cu J) (hI : I.Ix w0 w ib X O) (hob : O b) (hoj : O jb) (hne : b ≠ jb) (h0 : w0.heap.size ≤ jb) (hj : Bk w jb (pj j) 104) (hp : p < 5) (hl : l < 8) (hJ : J (p * 8 + l) = .pointer (some ⟨jb, 0, none⟩)) (hW : W < 18446744073709551616) (hx : j.x.size ≤ 900000) :
    Calls Tryz.prog 18 #[.pointer (some ⟨b, 0, none⟩), .int .i64 p, .int .i64 l, .int .u64 (W : Int)] w fun e w' => e = .returned (.int .i64 (tkE X j W)) ∧ Bk w' jb (pj (takeR j W).1) 104 ∧ I.Ix w0 w' ib (tkS X j W) O ∧ I.Kp (fun g => O g ∧ g ≠ jb) w w' := by
  have CL := look_any b w
  have CA := at_in b p l _ w hp hl (hN.cj (by omega))
  rw [hJ] at CA
  have CT := take_any j W hW hx jb w hj
  have HG : Hid (∀ v, Gb jb w v → I.Ix w0 v ib X O ∧ I.Kp (fun g => O g ∧ g ≠ jb) w v) := show _ from fun v hv => Gb.ix hI hv hoj h0
  have HNB : Hid (∀ v, I.Kp (fun g => O g ∧ g ≠ jb) w v → Nb v b ib S cu J) := show _ from fun v hv => hN.keep (hv.on b ⟨hob, hne⟩)
  have HLT : Hid (∀ g, O g → g < w.heap.size) := hI.lt
  have HOJ : Hid (O jb) := hoj
  unfold tkE tkS
  obtain ⟨T1, hT1⟩ : ∃ x, (takeR j W).1 = x := ⟨_, rfl⟩
  obtain ⟨T2, hT2⟩ : ∃ x, (takeR j W).2.1 = x := ⟨_, rfl⟩
  obtain ⟨T3, hT3⟩ : ∃ x, (takeR j W).2.2.1 = x := ⟨_, rfl⟩
  obtain ⟨T4, hT4⟩ : ∃ x, (takeR j W).2.2.2 = x := ⟨_, rfl⟩
  rw [hT1, hT2, hT3, hT4] at CT
  rw [hT1, hT2, hT3, hT4]
  clear hT1 hT2 hT3 hT4 hN hI hob hoj hne h0 hj hp hl hJ hW hx
  have CI := fun v (h : I.Ix w0 v ib X O) => I.ix_come h (toI T2)
  simp only [toI] at CI ⊢
  obtain ⟨k1, k2, k3, k4⟩ := T2
  simp only [pkv, pkc, I.pkv, I.pkc] at CI CT ⊢
  generalize pj T1 = PJ at *
  have HCI : Hid (∀ v, I.Ix w0 v ib X O → Calls Tryz.prog 38 #[.pointer (some ⟨ib, 0, none⟩), .agg #[.int .i64 k1, .int .i64 k2, .int .i64 k3, .string k4]] v fun e w' => e = .returned (.int .i64 (I.comeE X ⟨k1, k2, k3, k4⟩)) ∧ I.Ix w0 w' ib (I.comeS X ⟨k1, k2, k3, k4⟩) O ∧ I.Kp O v w') := show _ from CI
  clear CI
  generalize I.comeE X ⟨k1, k2, k3, k4⟩ = CE at *
  generalize I.comeS X ⟨k1, k2, k3, k4⟩ = CS at *
  cases T3
  case false =>
    simp only [Bool.false_eq_true, if_false]
    go_enter Tryz.func18, Tryz.ntmps18
    go_wp2_with fail
    go_at_call 28
    with_reducible refine CL.mono ?_
    rintro e v ⟨rfl, rfl⟩
    go_wp2_with fail
    go_at_call 36
    with_reducible refine CA.mono ?_
    rintro e v ⟨rfl, rfl⟩
    go_wp2_with (go_at_call 37; with_reducible refine CT.mono ?_; rintro e v2 ⟨rfl, b2, g2⟩)
    go_ret
    obtain ⟨i2, kp2⟩ := HG.out _ g2
    exact ⟨rfl, b2.alloc _, i2.alloc' _, (kp2.trans (kp_below ((Below.refl _ _).alloc (Nat.le_refl _) _) fun g hg => i2.lt g hg.1))⟩
  case true =>
    simp only [if_true]
    go_enter Tryz.func18, Tryz.ntmps18
    go_wp2_with fail
    go_at_call 28
    with_reducible refine CL.mono ?_
    rintro e v ⟨rfl, rfl⟩
    go_wp2_with fail
    go_at_call 36
    with_reducible refine CA.mono ?_
    rintro e v ⟨rfl, rfl⟩
    go_upto_region 5 with (go_at_call 37; with_reducible refine CT.mono ?_; rintro e v2 ⟨rfl, b2, g2⟩)
    obtain ⟨i2, kp2⟩ := HG.out _ g2
    have kp3 : I.Kp (fun g => O g ∧ g ≠ jb) w (v2.alloc (.cells #[.int .i64 k1, .int .i64 k2, .int .i64 k3, .string k4] 61)).drew := kp2.trans (kp_below ((Below.refl _ _).alloc (Nat.le_refl _) _).drew fun g hg => i2.lt g hg.1)
    have i3 : I.Ix w0 (v2.alloc (.cells #[.int .i64 k1, .int .i64 k2, .int .i64 k3, .string k4] 61)).drew ib X O := (i2.alloc' _).drew 1
    have b3 : Bk (v2.alloc (.cells #[.int .i64 k1, .int .i64 k2, .int .i64 k3, .string k4] 61)).drew jb PJ 104 := (b2.alloc _).drew
    have PB : Bk (v2.alloc (.cells #[.int .i64 k1, .int .i64 k2, .int .i64 k3, .string k4] 61)).drew v2.heap.size #[.int .i64 k1, .int .i64 k2, .int .i64 k3, .string k4] 61 := (Bk.new v2 _ _).drew
    have T0 := show _ ∧ _ ∧ _ ∧ _ ∧ _ from ⟨(HNB.out _ kp3).hd.1, (PB.cell 0).trans rfl, (PB.cell 1).trans rfl, (PB.cell 2).trans rfl, (PB.cell 3).trans rfl⟩
    have CC := HCI.out _ i3
    have H3 : Hid (I.Kp (fun g => O g ∧ g ≠ jb) w (v2.alloc (.cells #[.int .i64 k1, .int .i64 k2, .int .i64 k3, .string k4] 61)).drew) := kp3
    have HB3 : Hid (Bk (v2.alloc (.cells #[.int .i64 k1, .int .i64 k2, .int .i64 k3, .string k4] 61)).drew jb PJ 104) := b3
    clear i2 kp2 kp3 i3 b3 PB HNB HCI HG b2 g2 CL CA CT
    refine wp_region_G (fun V => V.cell? ⟨b, 0, none⟩ = some (.pointer (some ⟨ib, 0, none⟩)) ∧ V.cell? ⟨v2.heap.size, 0, none⟩ = some (.int .i64 k1) ∧ V.cell? ⟨v2.heap.size, 1, none⟩ = some (.int .i64 k2) ∧ V.cell? ⟨v2.heap.size, 2, none⟩ = some (.int .i64 k3) ∧ V.cell? ⟨v2.heap.size, 3, none⟩ = some (.string k4)) 5 (by kernel_rfl) ?_
    refine wpAnyG_take [1, 2, 3, 5] (some 28) (i := 0) (v := ?v0) rfl rfl (by kernel_rfl) (by kernel_rfl) (by kernel_rfl) (by kernel_rfl) (fun _ _ _ h => h) (Or.inl ⟨by rfl, ?y0⟩) T0 ?r0
    case y0 => (intro V hSV; obtain ⟨s0, s1, s2, s3, s4⟩ := hSV; go_simp; try with_reducible rfl)
    try simp only [Act.put, List.setIfInBounds_toArray, List.set_cons_zero, List.set_cons_succ]
    refine wpAnyG_take [2, 3, 5] (some 29) (i := 1) (v := ?v1) rfl rfl (by kernel_rfl) (by kernel_rfl) (by kernel_rfl) (by kernel_rfl) (fun _ _ _ h => h) (Or.inl ⟨by rfl, ?y1⟩) T0 ?r1
    case y1 => (intro V hSV; obtain ⟨s0, s1, s2, s3, s4⟩ := hSV; go_simp; try with_reducible rfl)
    try simp only [Act.put, List.setIfInBounds_toArray, List.set_cons_zero, List.set_cons_succ]
    refine wpAnyG_take [3, 5] (some 30) (i := 2) (v := ?v2) rfl rfl (by kernel_rfl) (by kernel_rfl) (by kernel_rfl) (by kernel_rfl) (fun _ _ _ h => h) (Or.inl ⟨by rfl, ?y2⟩) T0 ?r2
    case y2 => (intro V hSV; obtain ⟨s0, s1, s2, s3, s4⟩ := hSV; go_simp; try with_reducible rfl)
    try simp only [Act.put, List.setIfInBounds_toArray, List.set_cons_zero, List.set_cons_succ]
    refine wpAnyG_take [5] (some 31) (i := 3) (v := ?v3) rfl rfl (by kernel_rfl) (by kernel_rfl) (by kernel_rfl) (by kernel_rfl) (fun _ _ _ h => h) (Or.inl ⟨by rfl, ?y3⟩) T0 ?r3
    case y3 => (intro V hSV; obtain ⟨s0, s1, s2, s3, s4⟩ := hSV; go_simp; try with_reducible rfl)
    try simp only [Act.put, List.setIfInBounds_toArray, List.set_cons_zero, List.set_cons_succ]
    refine wpAnyG_take [5] (some 32) (i := 4) (v := ?v4) rfl rfl (by kernel_rfl) (by kernel_rfl) (by kernel_rfl) (by kernel_rfl) (fun _ _ _ h => h) (Or.inl ⟨by rfl, ?y4⟩) T0 ?r4
    case y4 => (intro V hSV; obtain ⟨s0, s1, s2, s3, s4⟩ := hSV; go_simp; try with_reducible rfl)
    try simp only [Act.put, List.setIfInBounds_toArray, List.set_cons_zero, List.set_cons_succ]
    refine wpAnyG_one (i := 5) (by kernel_rfl) rfl (fun K hK => ?_)
    go_simp
    with_reducible refine CC.mono ?_
    rintro e v5 ⟨rfl, i5, kp5⟩
    refine hK.out _ _ (Or.inl (by kernel_rfl)) ?_
    clear hK K
    try simp only [Act.put, List.setIfInBounds_toArray, List.set_cons_zero, List.set_cons_succ]
    refine wpAnyG_one (i := 6) (by kernel_rfl) rfl (fun K hK => ?_)
    go_simp
    refine hK.out _ _ (Or.inl (by kernel_rfl)) ?_
    clear hK K
    try simp only [Act.put, List.setIfInBounds_toArray, List.set_cons_zero, List.set_cons_succ]
    refine wpAnyG_done (by kernel_rfl) ?_ _
    go_wp2
    go_ret
    exact ⟨rfl, HB3.out.ikp kp5 HOJ.out, i5, H3.out.trans ⟨kp5.size, fun g hg => kp5.on g hg.1⟩⟩
end Go.Proofs.YtoejpngdkcnnhaaGreat
