/-
  The program's nic: drop, Put. (Written by gen_nput.py.)
-/
import Derived.Test.YtoejpngdkcnnhaaGreatNcFirst
namespace Go.Proofs.YtoejpngdkcnnhaaGreat
open Go.RowKit

/-- Of the elder blocks only these may have turned. -/
abbrev Tn (T : Nat → Prop) (w w' : World) : Prop := I.Gr T w w' T
theorem Tn.set {T : Nat → Prop} {w v : World} {g k : Nat} (h : Tn T w v) (hg : T g) (x : Value) : Tn T w (v.setCell ⟨g, k, none⟩ x) :=
  h.trans ⟨rfl, rfl, rfl, by simp, fun i _ hn => Below.heap_setCell _ ⟨g, k, none⟩ _ i fun e => hn (by rw [e]; exact hg), fun _ h => Or.inl h⟩
theorem Tn.drew {T : Nat → Prop} {w v : World} (h : Tn T w v) : Tn T w v.drew := h.trans ⟨rfl, rfl, rfl, Nat.le_refl _, fun _ _ _ => rfl, fun _ h => Or.inl h⟩
theorem Tn.below {T : Nat → Prop} {w v u : World} (h : Tn T w v) (k : Below v.heap.size v u) : Tn T w u := h.trans ⟨k.os, k.tape, k.output, k.size, fun i hi _ => k.block i hi, fun _ h => Or.inl h⟩
theorem Tn.refl (T : Nat → Prop) (w : World) : Tn T w w := I.Gr.refl T w
section
variable {w : World} {b ib : Nat} {S : Nc} {cu : Value} {J : Nat → Value} {g o n cap h q m mc : Nat} {l : Int} {cs : Array Value} {t : TypeId}
set_option maxRecDepth 100000 in
set_option maxHeartbeats 4000000 in
theorem drop_more (hN : Nb w b ib S (.slice (some ⟨g, o, none⟩) n cap) J) (h1 : 1 ≤ S.lf) (h2 : S.lf ≤ 1000000) (n1 : 1 ≤ n) (hB : Bk w g cs t) (hne : g ≠ b) (hc : cs[o + 1]? = some (.slice (some ⟨h, q, none⟩) m mc)) (m2 : 2 ≤ m) (mm : m ≤ mc) (mx : m ≤ 1000000) :
    Calls Tryz.prog 34 #[.pointer (some ⟨b, 0, none⟩)] w fun e w' => e = .returned (.tuple #[]) ∧ Nb w' b ib { S with lf := S.lf - 1 } (.slice (some ⟨g, o, none⟩) n cap) J ∧ Bk w' g (cs.setIfInBounds (o + 1) (.slice (some ⟨h, q + 1, none⟩) (m - 1) (m - 1))) t ∧ Tn (fun x => x = b ∨ x = g) w w' := by
  have w1 : IntKind.i64.wrap (S.lf - 1) = S.lf - 1 := IntWalk.i64_in _ (by omega)
  have H1 : Hid (Nb (w.setCell ⟨b, 12, none⟩ (.int .i64 (S.lf - 1))) b ib { S with lf := S.lf - 1 } (.slice (some ⟨g, o, none⟩) n cap) J) := hN.setLf _
  have HB1 : Hid (Bk (w.setCell ⟨b, 12, none⟩ (.int .i64 (S.lf - 1))) g cs t) := hB.far hne
  have HT : Hid (Tn (fun x => x = b ∨ x = g) w (w.setCell ⟨b, 12, none⟩ (.int .i64 (S.lf - 1)))) := (Tn.refl _ w).set (Or.inl rfl) _
  have f12 := hN.free 12
  have c12 := hN.hd.2.2.2.1
  have HC : Hid (cs[o + 1]? = some (.slice (some ⟨h, q, none⟩) m mc)) := hc
  have g1 : (1 : Int) < (m : Int) := by omega
  have g2 : (1 : Int) ≤ (m : Int) := by omega
  have g3 : 0 < n := n1
  have g4 : (0 : Int) < (n : Int) := by omega
  have g5 : (m : Int) ≤ (mc : Int) := by omega
  have g6 : (0 : Int) ≤ 1 := by decide
  have HNE : Hid (g ≠ b) := hne
  have HL : Hid (1 ≤ S.lf ∧ S.lf ≤ 1000000) := ⟨h1, h2⟩
  obtain ⟨lf, hlf⟩ : ∃ x, S.lf = x := ⟨_, rfl⟩
  obtain ⟨S1, hS1⟩ : ∃ x : Nc, ({ S with lf := S.lf - 1 } : Nc) = x := ⟨_, rfl⟩
  rw [hS1] at H1 ⊢
  rw [hlf] at w1 H1 HB1 HT c12 HL
  clear hN hB hne hc hlf h1 h2 hS1
  go_enter Tryz.func34, Tryz.ntmps34
  go_upto_region 1 with fail
  clear c12 f12
  generalize w.setCell ⟨b, 12, none⟩ (.int .i64 (lf - 1)) = v at *
  have c13 := H1.out.hd.2.2.2.2
  have d1 := (HB1.out.cell (o + 1)).trans HC.out
  go_upto_region 3 with fail
  have T0 := c13
  have H2 : Hid (Bk v.drew g cs t) := HB1.out.drew
  refine wp_region_G (fun V => V.cell? ⟨b, 13, none⟩ = some (.slice (some ⟨g, o, none⟩) n cap)) 12 (by kernel_rfl) ?_
  refine wpAnyG_take [1, 2, 3, 10, 11, 12] (some 20) (i := 0) (v := ?v0) rfl rfl (by kernel_rfl) (by kernel_rfl) (by kernel_rfl) (by kernel_rfl) (fun _ _ _ h => h) (Or.inl ⟨by rfl, ?y0⟩) T0 ?r0
  case y0 => (intro V hSV; have s0 := hSV; go_simp; try with_reducible rfl)
  try simp only [Act.put, List.setIfInBounds_toArray, List.set_cons_zero, List.set_cons_succ]
  refine wpAnyG_take [2, 3, 10, 11, 12] (some 21) (i := 1) (v := ?v1) rfl rfl (by kernel_rfl) (by kernel_rfl) (by kernel_rfl) (by kernel_rfl) (fun _ _ _ h => h) (Or.inl ⟨by rfl, ?y1⟩) T0 ?r1
  case y1 => (intro V hSV; have s0 := hSV; go_simp; try with_reducible rfl)
  try simp only [Act.put, List.setIfInBounds_toArray, List.set_cons_zero, List.set_cons_succ]
  refine wpAnyG_take [3, 10, 11, 12] (some 22) (i := 2) (v := ?v2) rfl rfl (by kernel_rfl) (by kernel_rfl) (by kernel_rfl) (by kernel_rfl) (fun _ _ _ h => h) (Or.inl ⟨by rfl, ?y2⟩) T0 ?r2
  case y2 => (intro V hSV; have s0 := hSV; go_simp; try with_reducible rfl)
  try simp only [Act.put, List.setIfInBounds_toArray, List.set_cons_zero, List.set_cons_succ]
  refine wpAnyG_take [10, 11, 12] (some 23) (i := 3) (v := ?v3) rfl rfl (by kernel_rfl) (by kernel_rfl) (by kernel_rfl) (by kernel_rfl) (fun _ _ _ h => h) (Or.inl ⟨by rfl, ?y3⟩) T0 ?r3
  case y3 => (intro V hSV; have s0 := hSV; go_simp; try with_reducible rfl)
  try simp only [Act.put, List.setIfInBounds_toArray, List.set_cons_zero, List.set_cons_succ]
  refine wpAnyG_take [9, 12] (some 24) (i := 4) (v := ?v4) rfl rfl (by kernel_rfl) (by kernel_rfl) (by kernel_rfl) (by kernel_rfl) (fun _ _ _ h => h) (Or.inl ⟨by rfl, ?y4⟩) T0 ?r4
  case y4 => (intro V hSV; have s0 := hSV; go_simp; try with_reducible rfl)
  try simp only [Act.put, List.setIfInBounds_toArray, List.set_cons_zero, List.set_cons_succ]
  refine wpAnyG_take [6, 9, 12] (some 25) (i := 5) (v := ?v5) rfl rfl (by kernel_rfl) (by kernel_rfl) (by kernel_rfl) (by kernel_rfl) (fun _ _ _ h => h) (Or.inl ⟨by rfl, ?y5⟩) T0 ?r5
  case y5 => (intro V hSV; have s0 := hSV; go_simp; try with_reducible rfl)
  try simp only [Act.put, List.setIfInBounds_toArray, List.set_cons_zero, List.set_cons_succ]
  refine wpAnyG_take [9, 12] (some 26) (i := 6) (v := ?v6) rfl rfl (by kernel_rfl) (by kernel_rfl) (by kernel_rfl) (by kernel_rfl) (fun _ _ _ h => h) (Or.inl ⟨by rfl, ?y6⟩) T0 ?r6
  case y6 => (intro V hSV; have s0 := hSV; go_simp; try with_reducible rfl)
  try simp only [Act.put, List.setIfInBounds_toArray, List.set_cons_zero, List.set_cons_succ]
  refine wpAnyG_take [8, 9, 12] (some 27) (i := 7) (v := ?v7) rfl rfl (by kernel_rfl) (by kernel_rfl) (by kernel_rfl) (by kernel_rfl) (fun _ _ _ h => h) (Or.inl ⟨by rfl, ?y7⟩) T0 ?r7
  case y7 => (intro V hSV; have s0 := hSV; go_simp; try with_reducible rfl)
  try simp only [Act.put, List.setIfInBounds_toArray, List.set_cons_zero, List.set_cons_succ]
  refine wpAnyG_take [9, 12] (some 28) (i := 8) (v := ?v8) rfl rfl (by kernel_rfl) (by kernel_rfl) (by kernel_rfl) (by kernel_rfl) (fun _ _ _ h => h) (Or.inl ⟨by rfl, ?y8⟩) T0 ?r8
  case y8 => (intro V hSV; have s0 := hSV; go_simp; try with_reducible rfl)
  try simp only [Act.put, List.setIfInBounds_toArray, List.set_cons_zero, List.set_cons_succ]
  refine wpAnyG_take [12] (some 29) (i := 9) (v := ?v9) rfl rfl (by kernel_rfl) (by kernel_rfl) (by kernel_rfl) (by kernel_rfl) (fun _ _ _ h => h) (Or.inl ⟨by rfl, ?y9⟩) T0 ?r9
  case y9 => (intro V hSV; have s0 := hSV; go_simp; try with_reducible rfl)
  try simp only [Act.put, List.setIfInBounds_toArray, List.set_cons_zero, List.set_cons_succ]
  refine wpAnyG_take [11, 12] (some 30) (i := 10) (v := ?v10) rfl rfl (by kernel_rfl) (by kernel_rfl) (by kernel_rfl) (by kernel_rfl) (fun _ _ _ h => h) (Or.inl ⟨by rfl, ?y10⟩) T0 ?r10
  case y10 => (intro V hSV; have s0 := hSV; go_simp; try with_reducible rfl)
  try simp only [Act.put, List.setIfInBounds_toArray, List.set_cons_zero, List.set_cons_succ]
  refine wpAnyG_take [12] (some 31) (i := 11) (v := ?v11) rfl rfl (by kernel_rfl) (by kernel_rfl) (by kernel_rfl) (by kernel_rfl) (fun _ _ _ h => h) (Or.inl ⟨by rfl, ?y11⟩) T0 ?r11
  case y11 => (intro V hSV; have s0 := hSV; go_simp; try with_reducible rfl)
  try simp only [Act.put, List.setIfInBounds_toArray, List.set_cons_zero, List.set_cons_succ]
  have m1 : ¬ m = 1 := by omega
  rw [if_neg m1]
  have D := H2.out.cell (o + 1)
  have f1 := H2.out.free (o + 1)
  rw [HC.out] at D
  have K1 : Hid (Nb (v.drew.setCell ⟨g, o + 1, none⟩ (.slice (some ⟨h, q + 1, none⟩) (m - 1) (m - 1))) b ib S1 (.slice (some ⟨g, o, none⟩) n cap) J) := (H1.out.next (Below.refl _ _).drew).far fun c => HNE.out c.symm
  have K2 : Hid (Bk (v.drew.setCell ⟨g, o + 1, none⟩ (.slice (some ⟨h, q + 1, none⟩) (m - 1) (m - 1))) g (cs.setIfInBounds (o + 1) (.slice (some ⟨h, q + 1, none⟩) (m - 1) (m - 1))) t) := H2.out.set _ _
  have K3 : Hid (Tn (fun x => x = b ∨ x = g) w (v.drew.setCell ⟨g, o + 1, none⟩ (.slice (some ⟨h, q + 1, none⟩) (m - 1) (m - 1)))) := HT.out.drew.set (Or.inr rfl) _
  clear c13 d1 T0 H1 HB1 HT H2
  generalize v.drew = v4 at *
  refine wpAnyG_one (i := 12) (by kernel_rfl) rfl (fun K hK => ?_)
  go_simp
  refine hK.out _ _ (Or.inl (by kernel_rfl)) ?_
  clear hK K
  try simp only [Act.put, List.setIfInBounds_toArray, List.set_cons_zero, List.set_cons_succ]
  refine wpAnyG_done (by kernel_rfl) ?_ _
  go_wp2
  refine bodyPost_ret (v := .tuple #[]) (results_none rfl _ _ _) rfl ⟨rfl, K1.out, K2.out, K3.out⟩
set_option maxRecDepth 100000 in
set_option maxHeartbeats 4000000 in
theorem drop_last (hN : Nb w b ib S (.slice (some ⟨g, o, none⟩) n cap) J) (h1 : 1 ≤ S.lf) (h2 : S.lf ≤ 1000000) (n1 : 1 ≤ n) (nc : n ≤ cap) (hB : Bk w g cs t) (hne : g ≠ b) (ho : cs[o]? = some (.int .i64 l)) (hc : cs[o + 1]? = some (.slice (some ⟨h, q, none⟩) 1 mc)) (_nm : cap ≤ maxLen) :
    Calls Tryz.prog 34 #[.pointer (some ⟨b, 0, none⟩)] w fun e w' => e = .returned (.tuple #[]) ∧ (∃ ad, (2 ≤ n → ad = some ⟨g, o + 2, none⟩) ∧ Nb w' b ib { S with lf := S.lf - 1 } (.slice ad (n - 1) (cap - 1)) J) ∧ Bk w' g ((cs.setIfInBounds o (.int .i64 0)).setIfInBounds (o + 1) (.slice none 0 0)) t ∧ Tn (fun x => x = b ∨ x = g) w w' := by
  have w1 : IntKind.i64.wrap (S.lf - 1) = S.lf - 1 := IntWalk.i64_in _ (by omega)
  have H1 : Hid (Nb (w.setCell ⟨b, 12, none⟩ (.int .i64 (S.lf - 1))) b ib { S with lf := S.lf - 1 } (.slice (some ⟨g, o, none⟩) n cap) J) := hN.setLf _
  have HB1 : Hid (Bk (w.setCell ⟨b, 12, none⟩ (.int .i64 (S.lf - 1))) g cs t) := hB.far hne
  have HT : Hid (Tn (fun x => x = b ∨ x = g) w (w.setCell ⟨b, 12, none⟩ (.int .i64 (S.lf - 1)))) := (Tn.refl _ w).set (Or.inl rfl) _
  have f12 := hN.free 12
  have c12 := hN.hd.2.2.2.1
  have HC : Hid (cs[o]? = some (.int .i64 l) ∧ cs[o + 1]? = some (.slice (some ⟨h, q, none⟩) 1 mc)) := show _ ∧ _ from ⟨ho, hc⟩
  have g2 : (1 : Int) ≤ (n : Int) := by omega
  have g3 : 0 < n := n1
  have g4 : (0 : Int) < (n : Int) := by omega
  have g5 : (n : Int) ≤ (cap : Int) := by omega
  have g6 : (1 : Int) ≤ (cap : Int) := by omega
  have HNE : Hid (g ≠ b) := hne
  have HL : Hid (1 ≤ S.lf ∧ S.lf ≤ 1000000) := ⟨h1, h2⟩
  obtain ⟨lf, hlf⟩ : ∃ x, S.lf = x := ⟨_, rfl⟩
  obtain ⟨S1, hS1⟩ : ∃ x : Nc, ({ S with lf := S.lf - 1 } : Nc) = x := ⟨_, rfl⟩
  rw [hS1] at H1 ⊢
  rw [hlf] at w1 H1 HB1 HT c12 HL
  clear hN hB hne hc ho hlf h1 h2 hS1
  go_enter Tryz.func34, Tryz.ntmps34
  go_upto_region 1 with fail
  clear c12 f12
  generalize w.setCell ⟨b, 12, none⟩ (.int .i64 (lf - 1)) = v at *
  have c13 := H1.out.hd.2.2.2.2
  have d0 := (HB1.out.cell o).trans HC.out.1
  have d1 := (HB1.out.cell (o + 1)).trans HC.out.2
  have e0 := HB1.out.free o
  have e1 := HB1.out.free (o + 1)
  go_upto_region 5 with fail
  have K1 : Hid (Nb ((v.setCell ⟨g, o, none⟩ (.int .i64 0)).setCell ⟨g, o + 1, none⟩ (.slice none 0 0)) b ib S1 (.slice (some ⟨g, o, none⟩) n cap) J) := (H1.out.far fun c => HNE.out c.symm).far fun c => HNE.out c.symm
  have K2 : Hid (Bk ((v.setCell ⟨g, o, none⟩ (.int .i64 0)).setCell ⟨g, o + 1, none⟩ (.slice none 0 0)) g ((cs.setIfInBounds o (.int .i64 0)).setIfInBounds (o + 1) (.slice none 0 0)) t) := (HB1.out.set _ _).set _ _
  have K3 : Hid (Tn (fun x => x = b ∨ x = g) w ((v.setCell ⟨g, o, none⟩ (.int .i64 0)).setCell ⟨g, o + 1, none⟩ (.slice none 0 0))) := (HT.out.set (Or.inr rfl) _).set (Or.inr rfl) _
  clear c13 d0 d1 e0 e1 H1 HB1 HT
  generalize (v.setCell ⟨g, o, none⟩ (.int .i64 0)).setCell ⟨g, o + 1, none⟩ (.slice none 0 0) = v5 at *
  have c13 := K1.out.hd.2.2.2.2
  have f13 := K1.out.free 13
  go_wp2
  all_goals
    go_end0
    exact ⟨rfl, ⟨_, fun c => by first | rfl | (exfalso; omega), K1.out.setCu _⟩, K2.out.far HNE.out, K3.out.set (Or.inl rfl) _⟩
end
end Go.Proofs.YtoejpngdkcnnhaaGreat
