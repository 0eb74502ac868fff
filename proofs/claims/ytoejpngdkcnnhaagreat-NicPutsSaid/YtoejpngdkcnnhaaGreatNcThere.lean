/-
  The program's nic: areThere. (Written by gen_nthere.py.)
-/
import Derived.Test.YtoejpngdkcnnhaaGreatNcNew
import Derived.Test.YtoejpngdkcnnhaaGreatGoodR
namespace Go.Proofs.YtoejpngdkcnnhaaGreat
open Go.RowKit

/-- All Heads' nodes are there. -/
def thr (c : G.Cf) (hs : List (Int × Int)) : Bool := hs.all fun h => G.isN c h.1
set_option maxRecDepth 100000 in
set_option maxHeartbeats 4000000 in
theorem there_any {w : World} {b ib : Nat} {S : Nc} {cu : Value} {J : Nat → Value} (hN : Nb w b ib S cu J) (a : Option Addr) (cap : Nat) (hs : List (Int × Int)) (hl : hs.length ≤ 1000000) (hr : Rd w a (pc hs)) :
    Calls Tryz.prog 30 #[.pointer (some ⟨b, 0, none⟩), .slice a hs.length cap] w fun e w' => e = .returned (.bool (thr S.c hs)) ∧ Below w.heap.size w w' := by
  have IC := G.is_any S.c
  have cf := hN.cf
  have hbl := hN.lt
  have AL : Hid (∀ k, k < hs.length → G.isN S.c (hs.getD k (0, 0)).1 = false → thr S.c hs = false) := show _ from fun k hk h => by
    unfold thr
    rw [List.all_eq_false]
    refine ⟨hs.getD k (0, 0), ?_, by rw [h]; decide⟩
    rw [List.getD_eq_getElem?_getD, List.getElem?_eq_getElem hk]
    exact List.getElem_mem _
  have AT : Hid ((∀ k, k < hs.length → G.isN S.c (hs.getD k (0, 0)).1 = true) → thr S.c hs = true) := show _ from fun h => by
    unfold thr
    rw [List.all_eq_true]
    intro x hx
    obtain ⟨k, hk, rfl⟩ := List.getElem_of_mem hx
    have := h k hk
    rw [List.getD_eq_getElem?_getD, List.getElem?_eq_getElem hk] at this
    exact this
  generalize thr S.c hs = TH at *
  obtain ⟨n, hn⟩ : ∃ n, hs.length = n := ⟨_, rfl⟩
  have HN : Hid (hs.length = n) := hn
  have HR : Hid (Rd w a (pc hs)) := hr
  rw [hn] at hl AL AT ⊢
  generalize S.c = c at *
  obtain ⟨cw, ch, cl, cd, cr, ci, cb, we, ca⟩ := c
  simp only [G.cfv, G.cfc] at IC cf
  have CF : Hid (w.cell? ⟨b, 1, none⟩ = some (.int .i64 cw) ∧ w.cell? ⟨b, 2, none⟩ = some (.int .i64 ch) ∧ w.cell? ⟨b, 3, none⟩ = some (.int .i64 cl) ∧ w.cell? ⟨b, 4, none⟩ = some (.int .i64 cd) ∧ w.cell? ⟨b, 5, none⟩ = some (.int .i64 cr) ∧ w.cell? ⟨b, 6, none⟩ = some (.int .i64 ci) ∧ w.cell? ⟨b, 7, none⟩ = some (.int .i64 cb) ∧ w.cell? ⟨b, 8, none⟩ = some (.bool we) ∧ w.cell? ⟨b, 9, none⟩ = some (.bool ca)) := cf
  have CK : Hid (∀ v, Below w.heap.size w v → v.cell? ⟨b, 1, none⟩ = some (.int .i64 cw) ∧ v.cell? ⟨b, 2, none⟩ = some (.int .i64 ch) ∧ v.cell? ⟨b, 3, none⟩ = some (.int .i64 cl) ∧ v.cell? ⟨b, 4, none⟩ = some (.int .i64 cd) ∧ v.cell? ⟨b, 5, none⟩ = some (.int .i64 cr) ∧ v.cell? ⟨b, 6, none⟩ = some (.int .i64 ci) ∧ v.cell? ⟨b, 7, none⟩ = some (.int .i64 cb) ∧ v.cell? ⟨b, 8, none⟩ = some (.bool we) ∧ v.cell? ⟨b, 9, none⟩ = some (.bool ca)) := show _ from fun v hv => by
    have k : ∀ j, v.cell? ⟨b, j, none⟩ = w.cell? ⟨b, j, none⟩ := fun j => hv.cell (p := ⟨b, j, none⟩) hbl
    simp only [k]
    exact CF.out
  clear hN hr hn cf CF
  go_enter Tryz.func30, Tryz.ntmps30
  go_wp2_with fail
  go_loopw [9] (fun x wr => ∃ k : Nat, k ≤ n ∧ x = .int .i64 (k : Int) ∧ Below w.heap.size w wr ∧ ∀ j, j < k → G.isN ⟨cw, ch, cl, cd, cr, ci, cb, we, ca⟩ (hs.getD j (0, 0)).1 = true) (fun x _ => n - (RowKit.intOf x).toNat)
  case atStart => exact ⟨0, Nat.zero_le _, rfl, Below.refl _ _, fun j h => absurd h (Nat.not_lt_zero j)⟩
  case round =>
    obtain ⟨k, hk, rfl, wb, wt⟩ := hrel
    have WB : Hid (Below w.heap.size w wr) := wb
    have WT : Hid (∀ j, j < k → G.isN ⟨cw, ch, cl, cd, cr, ci, cb, we, ca⟩ (hs.getD j (0, 0)).1 = true) := wt
    clear wb wt
    by_cases hlt : k < n
    case neg =>
      obtain rfl : k = n := by omega
      have ht := AT.out WT.out
      subst ht
      clear AL AT WT hlt
      go_wp2
      go_ret
      exact ⟨rfl, WB.out⟩
    have e1 : (k : Int) < (n : Int) := by omega
    have e2 : (0 : Int) ≤ (k : Int) := by omega
    obtain ⟨g, o, rfl, hg, c3, c4⟩ := HR.out.pair (k := k) (by rw [HN.out]; exact hlt)
    have d3 := (WB.out.cell (p := ⟨g, o + k * 2, none⟩) hg).trans c3
    have d4 := (WB.out.cell (p := ⟨g, o + k * 2 + 1, none⟩) hg).trans c4
    have al := AL.out k hlt
    have HK : Hid (k < n) := hlt
    generalize (hs.getD k (0, 0)).2 = q at *
    obtain ⟨p, hp⟩ : ∃ p, (hs.getD k (0, 0)).1 = p := ⟨_, rfl⟩
    have HP : Hid ((hs.getD k (0, 0)).1 = p) := hp
    rw [hp] at c3 d3 al
    have HA : Hid (G.isN ⟨cw, ch, cl, cd, cr, ci, cb, we, ca⟩ p = false → TH = false) := al
    clear AL AT c3 c4 hp al hlt hk
    go_upto_region 4 with fail
    have B1 : Hid (Below w.heap.size w (wr.alloc (.cells #[.int .i64 p, .int .i64 q] 59))) := WB.out.alloc WB.out.size _
    have N1 := Bk.new wr #[.int .i64 p, .int .i64 q] 59
    clear d3 d4 WB
    generalize wr.alloc (.cells #[.int .i64 p, .int .i64 q] 59) = v1 at *
    generalize wr.heap.size = r1 at *
    have DR : Below v1.heap.size v1 v1.drew := (Below.refl _ _).drew
    have T0 := show _ ∧ _ from ⟨(N1.drew.cell 0).trans rfl, CK.out v1.drew (B1.out.drew)⟩
    have HB2 : Hid (Below w.heap.size w v1.drew) := B1.out.drew
    refine wp_region_G (fun V => V.cell? ⟨r1, 0, none⟩ = some (.int .i64 p) ∧ V.cell? ⟨b, 1, none⟩ = some (.int .i64 cw) ∧ V.cell? ⟨b, 2, none⟩ = some (.int .i64 ch) ∧ V.cell? ⟨b, 3, none⟩ = some (.int .i64 cl) ∧ V.cell? ⟨b, 4, none⟩ = some (.int .i64 cd) ∧ V.cell? ⟨b, 5, none⟩ = some (.int .i64 cr) ∧ V.cell? ⟨b, 6, none⟩ = some (.int .i64 ci) ∧ V.cell? ⟨b, 7, none⟩ = some (.int .i64 cb) ∧ V.cell? ⟨b, 8, none⟩ = some (.bool we) ∧ V.cell? ⟨b, 9, none⟩ = some (.bool ca)) 6 (by kernel_rfl) ?_
    refine wpAnyG_take [1, 2, 3, 6] (some 13) (i := 0) (v := ?v0) rfl rfl (by kernel_rfl) (by kernel_rfl) (by kernel_rfl) (by kernel_rfl) (fun _ _ _ h => h) (Or.inl ⟨by rfl, ?y0⟩) T0 ?r0
    case y0 => (intro V hSV; obtain ⟨s0, s1, s2, s3, s4, s5, s6, s7, s8, s9⟩ := hSV; go_simp; try with_reducible rfl)
    try simp only [Act.put, List.setIfInBounds_toArray, List.set_cons_zero, List.set_cons_succ]
    refine wpAnyG_take [2, 3, 6] (some 14) (i := 1) (v := ?v1) rfl rfl (by kernel_rfl) (by kernel_rfl) (by kernel_rfl) (by kernel_rfl) (fun _ _ _ h => h) (Or.inl ⟨by rfl, ?y1⟩) T0 ?r1
    case y1 => (intro V hSV; obtain ⟨s0, s1, s2, s3, s4, s5, s6, s7, s8, s9⟩ := hSV; go_simp; try with_reducible rfl)
    try simp only [Act.put, List.setIfInBounds_toArray, List.set_cons_zero, List.set_cons_succ]
    refine wpAnyG_take [3, 6] (some 15) (i := 2) (v := ?v2) rfl rfl (by kernel_rfl) (by kernel_rfl) (by kernel_rfl) (by kernel_rfl) (fun _ _ _ h => h) (Or.inl ⟨by rfl, ?y2⟩) T0 ?r2
    case y2 => (intro V hSV; obtain ⟨s0, s1, s2, s3, s4, s5, s6, s7, s8, s9⟩ := hSV; go_simp; try with_reducible rfl)
    try simp only [Act.put, List.setIfInBounds_toArray, List.set_cons_zero, List.set_cons_succ]
    refine wpAnyG_take [6] (some 16) (i := 3) (v := ?v3) rfl rfl (by kernel_rfl) (by kernel_rfl) (by kernel_rfl) (by kernel_rfl) (fun _ _ _ h => h) (Or.inl ⟨by rfl, ?y3⟩) T0 ?r3
    case y3 => (intro V hSV; obtain ⟨s0, s1, s2, s3, s4, s5, s6, s7, s8, s9⟩ := hSV; go_simp; try with_reducible rfl)
    try simp only [Act.put, List.setIfInBounds_toArray, List.set_cons_zero, List.set_cons_succ]
    refine wpAnyG_take [5, 6] (some 17) (i := 4) (v := ?v4) rfl rfl (by kernel_rfl) (by kernel_rfl) (by kernel_rfl) (by kernel_rfl) (fun _ _ _ h => h) (Or.inl ⟨by rfl, ?y4⟩) T0 ?r4
    case y4 => (intro V hSV; obtain ⟨s0, s1, s2, s3, s4, s5, s6, s7, s8, s9⟩ := hSV; go_simp; try with_reducible rfl)
    try simp only [Act.put, List.setIfInBounds_toArray, List.set_cons_zero, List.set_cons_succ]
    refine wpAnyG_take [6] (some 18) (i := 5) (v := ?v5) rfl rfl (by kernel_rfl) (by kernel_rfl) (by kernel_rfl) (by kernel_rfl) (fun _ _ _ h => h) (Or.inl ⟨by rfl, ?y5⟩) T0 ?r5
    case y5 => (intro V hSV; obtain ⟨s0, s1, s2, s3, s4, s5, s6, s7, s8, s9⟩ := hSV; go_simp; try with_reducible rfl)
    try simp only [Act.put, List.setIfInBounds_toArray, List.set_cons_zero, List.set_cons_succ]
    clear T0 N1 B1 DR
    generalize v1.drew = v2 at *
    refine wpAnyG_one (i := 6) (by kernel_rfl) rfl (fun K hK => ?_)
    go_simp
    with_reducible refine (IC _ _).mono ?_
    rintro e v5 ⟨rfl, b5⟩
    have B5 : Hid (Below w.heap.size w v5) := HB2.out.trans (b5.mono HB2.out.size)
    clear b5 HB2
    refine hK.out _ _ (Or.inl (by kernel_rfl)) ?_
    clear hK K
    try simp only [Act.put, List.setIfInBounds_toArray, List.set_cons_zero, List.set_cons_succ]
    refine wpAnyG_one (i := 7) (by kernel_rfl) rfl (fun K hK => ?_)
    go_simp
    refine hK.out _ _ (Or.inl (by kernel_rfl)) ?_
    clear hK K
    try simp only [Act.put, List.setIfInBounds_toArray, List.set_cons_zero, List.set_cons_succ]
    refine wpAnyG_done (by kernel_rfl) ?_ _
    obtain ⟨ib2, hib⟩ : ∃ x, G.isN ⟨cw, ch, cl, cd, cr, ci, cb, we, ca⟩ p = x := ⟨_, rfl⟩
    rw [hib] at HA ⊢
    have HI : Hid (G.isN ⟨cw, ch, cl, cd, cr, ci, cb, we, ca⟩ p = ib2) := hib
    clear hib
    cases ib2
    case false =>
      have ht := HA.out rfl
      subst ht
      clear HA HI
      go_wp2
      go_ret
      exact ⟨rfl, B5.out⟩
    case true =>
      have WT2 : Hid (∀ j, j < k + 1 → G.isN ⟨cw, ch, cl, cd, cr, ci, cb, we, ca⟩ (hs.getD j (0, 0)).1 = true) := show _ from fun j hj => by
        by_cases hjk : j = k
        · rw [hjk, HP.out]
          exact HI.out
        · exact WT.out j (by omega)
      have hk := HK.out
      clear HA HI
      go_wp2
      go_roundw
      case rel => exact ⟨k + 1, by omega, by go_num, B5.out, WT2.out⟩
      case measure => simp [RowKit.intOf]; omega
end Go.Proofs.YtoejpngdkcnnhaaGreat
