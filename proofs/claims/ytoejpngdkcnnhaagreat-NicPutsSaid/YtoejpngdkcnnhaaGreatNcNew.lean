/-
  The program's nic: a new one. (Written by gen_nnew.py.)
-/
import Derived.Test.YtoejpngdkcnnhaaGreatNcGet
import Derived.Test.YtoejpngdkcnnhaaGreatCfgs
namespace Go.Proofs.YtoejpngdkcnnhaaGreat
open Go.RowKit

/-- The joins' pointers, when the first m places have been gone by. -/
def jp (l : Int) (jb : Nat → Nat) (m : Nat) : Nat → Value := fun k => if k < m ∧ ((k % 8 : Nat) : Int) < l then .pointer (some ⟨jb k, 0, none⟩) else .pointer none
structure Lay (w v : World) (b ib : Nat) (c : G.Cf) (nd : Int) (F : Nat → Prop) (jb : Nat → Nat) (m : Nat) : Prop where
  nb : Nb v b ib ⟨c, nd, 0, 0⟩ (.slice none 0 0) (jp c.l jb m)
  ix : I.In v ib (I.newI (I.roomN c.i)) F
  bl : Below w.heap.size w v
  hF : ∀ g, F g → w.heap.size ≤ g ∧ g < b
  hb : w.heap.size ≤ b
  js : ∀ k, k < m → ((k % 8 : Nat) : Int) < c.l → Bk v (jb k) (pj zjs) 104 ∧ b < jb k
  mono : ∀ k k', k < k' → k' < m → ((k % 8 : Nat) : Int) < c.l → ((k' % 8 : Nat) : Int) < c.l → jb k < jb k'
theorem Lay.next {w v u : World} {b ib : Nat} {c : G.Cf} {nd : Int} {F : Nat → Prop} {jb : Nat → Nat} {m : Nat} (h : Lay w v b ib c nd F jb m) (hb : Below v.heap.size v u) : Lay w u b ib c nd F jb m :=
  ⟨h.nb.next hb, h.ix.next hb, h.bl.trans (hb.mono h.bl.size), h.hF, h.hb, fun k hk hl => ⟨(h.js k hk hl).1.next hb, (h.js k hk hl).2⟩, h.mono⟩
theorem Lay.more {w v : World} {b ib : Nat} {c : G.Cf} {nd : Int} {F : Nat → Prop} {jb : Nat → Nat} {m : Nat} (h : Lay w v b ib c nd F jb m) (hl : ((m % 8 : Nat) : Int) < c.l) :
    Lay w ((v.alloc (.cells (pj zjs) 104)).setCell ⟨b, 14 + m, none⟩ (.pointer (some ⟨v.heap.size, 0, none⟩))) b ib c nd F (fun k => if k = m then v.heap.size else jb k) (m + 1) := by
  have hlt := h.nb.lt
  have hn := h.next ((Below.refl _ _).alloc (Nat.le_refl _) (.cells (pj zjs) 104))
  have hs : (v.alloc (.cells (pj zjs) 104)).heap.size = v.heap.size + 1 := by simp
  refine ⟨?_, hn.ix.far fun c => by have := (h.hF b c).2; omega, ?_, h.hF, h.hb, fun k hk hkl => ?_, fun k k' h1 h2 h3 h4 => ?_⟩
  · have := hn.nb.setJ m (.pointer (some ⟨v.heap.size, 0, none⟩))
    have e : updJ (jp c.l jb m) m (.pointer (some ⟨v.heap.size, 0, none⟩)) = jp c.l (fun k => if k = m then v.heap.size else jb k) (m + 1) := by
      funext k
      unfold updJ jp
      by_cases hk : k = m
      · subst hk
        rw [if_pos rfl, if_pos ⟨by omega, hl⟩]
        simp
      · rw [if_neg hk]
        by_cases h1 : k < m
        · simp [hk, h1, show k < m + 1 by omega]
        · simp [h1, show ¬ k < m + 1 by omega]
    rw [e] at this
    exact this
  · exact hn.bl.trans ⟨rfl, rfl, rfl, by simp, fun i hi => Below.heap_setCell _ ⟨b, 14 + m, none⟩ _ i (by have := h.hb; show i ≠ b; omega)⟩
  · by_cases e : k = m
    · subst e
      simp only [if_true]
      refine ⟨(Bk.new v (pj zjs) 104).far (by omega), hlt⟩
    · simp only [if_neg e]
      obtain ⟨a1, a2⟩ := hn.js k (by omega) hkl
      exact ⟨a1.far (by omega), a2⟩
  · by_cases e : k' = m
    · subst e
      simp only [if_true, if_neg (show ¬ k = k' by omega)]
      exact (h.js k (by omega) h3).1.lt
    · simp only [if_neg e, if_neg (show ¬ k = m by omega)]
      exact h.mono k k' h1 (by omega) h3 h4
theorem Lay.start {w v : World} {ib : Nat} {c : G.Cf} {nd : Int} {F : Nat → Prop} (hI : I.In v ib (I.newI (I.roomN c.i)) F) (hb : Below w.heap.size w v) (hF : ∀ g, F g → w.heap.size ≤ g) :
    Lay w (v.alloc (.cells (ncl ib ⟨c, nd, 0, 0⟩ (.slice none 0 0) (jp c.l (fun _ => 0) 0)).toArray 75)) v.heap.size ib c nd F (fun _ => 0) 0 :=
  ⟨Bk.new v _ _, hI.next ((Below.refl _ _).alloc (Nat.le_refl _) _), hb.alloc hb.size _, fun g hg => ⟨hF g hg, hI.lt g hg⟩, hb.size, fun k hk => absurd hk (Nat.not_lt_zero k), fun _k k' _ h => absurd h (Nat.not_lt_zero k')⟩
/-- Behind the last lane of a port. -/
theorem Lay.port {w v : World} {b ib : Nat} {c : G.Cf} {nd : Int} {F : Nat → Prop} {jb : Nat → Nat} {p l : Nat} (h : Lay w v b ib c nd F jb (p * 8 + l)) (hl : ¬ (l : Int) < c.l) (h8 : l ≤ 8) : Lay w v b ib c nd F jb ((p + 1) * 8) := by
  have key : ∀ k, ((k % 8 : Nat) : Int) < c.l → (k < (p + 1) * 8 ↔ k < p * 8 + l) := fun k hk => by omega
  refine ⟨?_, h.ix, h.bl, h.hF, h.hb, fun k hk hkl => h.js k ((key k hkl).1 hk) hkl, fun k k' h1 h2 h3 h4 => h.mono k k' h1 ((key k' h4).1 h2) h3 h4⟩
  have e : jp c.l jb (p * 8 + l) = jp c.l jb ((p + 1) * 8) := by
    funext k
    unfold jp
    by_cases hk : ((k % 8 : Nat) : Int) < c.l
    · by_cases h1 : k < p * 8 + l
      · rw [if_pos ⟨h1, hk⟩, if_pos ⟨(key k hk).2 h1, hk⟩]
      · rw [if_neg (fun c => h1 c.1), if_neg (fun c => h1 ((key k hk).1 c.1))]
    · rw [if_neg (fun c => hk c.2), if_neg (fun c => hk c.2)]
  rw [← e]
  exact h.nb
theorem ncfg {v : World} {A : Nat} {cw ch cl cd cr ci cb : Int} {we ca : Bool} (q : Bk v A #[.int .i64 cw, .int .i64 ch, .int .i64 cl, .int .i64 cd, .int .i64 cr, .int .i64 ci, .int .i64 cb, .bool we, .bool ca] 23) : v.cell? ⟨A, 0, none⟩ = some (.int .i64 cw) ∧ v.cell? ⟨A, 1, none⟩ = some (.int .i64 ch) ∧ v.cell? ⟨A, 2, none⟩ = some (.int .i64 cl) ∧ v.cell? ⟨A, 3, none⟩ = some (.int .i64 cd) ∧ v.cell? ⟨A, 4, none⟩ = some (.int .i64 cr) ∧ v.cell? ⟨A, 5, none⟩ = some (.int .i64 ci) ∧ v.cell? ⟨A, 6, none⟩ = some (.int .i64 cb) ∧ v.cell? ⟨A, 7, none⟩ = some (.bool we) ∧ v.cell? ⟨A, 8, none⟩ = some (.bool ca) :=
  ⟨(q.cell 0).trans rfl, (q.cell 1).trans rfl, (q.cell 2).trans rfl, (q.cell 3).trans rfl, (q.cell 4).trans rfl, (q.cell 5).trans rfl, (q.cell 6).trans rfl, (q.cell 7).trans rfl, (q.cell 8).trans rfl⟩
set_option maxRecDepth 100000 in
theorem nic_none (c : G.Cf) (nd : Int) (w : World) (hno : G.isN c nd = false) : Calls Tryz.prog 8 #[G.cfv c, .int .i64 nd] w fun e w' => e = .returned (.pointer none) ∧ Below w.heap.size w w' := by
  have IC := G.is_any c nd
  rw [hno] at IC
  clear hno
  obtain ⟨cw, ch, cl, cd, cr, ci, cb, we, ca⟩ := c
  simp only [G.cfv, G.cfc] at *
  have N0 : Hid (Bk (w.alloc (.cells #[.int .i64 cw, .int .i64 ch, .int .i64 cl, .int .i64 cd, .int .i64 cr, .int .i64 ci, .int .i64 cb, .bool we, .bool ca] 23)) w.heap.size #[.int .i64 cw, .int .i64 ch, .int .i64 cl, .int .i64 cd, .int .i64 cr, .int .i64 ci, .int .i64 cb, .bool we, .bool ca] 23) := Bk.new _ _ _
  have B0 : Hid (Below w.heap.size w (w.alloc (.cells #[.int .i64 cw, .int .i64 ch, .int .i64 cl, .int .i64 cd, .int .i64 cr, .int .i64 ci, .int .i64 cb, .bool we, .bool ca] 23))) := (Below.refl _ _).alloc (Nat.le_refl _) _
  go_enter Tryz.func8, Tryz.ntmps8
  go_upto_region 1 with fail
  generalize w.alloc (.cells #[.int .i64 cw, .int .i64 ch, .int .i64 cl, .int .i64 cd, .int .i64 cr, .int .i64 ci, .int .i64 cb, .bool we, .bool ca] 23) = v at *
  obtain ⟨k0, k1, k2, k3, k4, k5, k6, k7, k8⟩ := ncfg N0.out
  go_wp2_with (go_at_call 25; with_reducible refine (IC _).mono ?_; rintro e w1 ⟨rfl, b1⟩)
  go_ret
  exact ⟨rfl, B0.out.trans (b1.mono B0.out.size)⟩
set_option maxRecDepth 100000 in
set_option maxHeartbeats 8000000 in
theorem nic_new (c : G.Cf) (nd : Int) (w : World) (hyes : G.isN c nd = true) (hl : 1 ≤ c.l ∧ c.l ≤ 8) : Calls Tryz.prog 8 #[G.cfv c, .int .i64 nd] w fun e w' => ∃ b ib F jb, e = .returned (.pointer (some ⟨b, 0, none⟩)) ∧ Lay w w' b ib c nd F jb 40 := by
  have IC := G.is_any c nd
  rw [hyes] at IC
  have JN := new_any
  obtain ⟨L, hL⟩ : ∃ L : Nat, c.l = (L : Int) := ⟨c.l.toNat, by omega⟩
  have HL : Hid (1 ≤ L ∧ L ≤ 8) := show _ ∧ _ from by omega
  clear hyes hl
  obtain ⟨cw, ch, cl, cd, cr, ci, cb, we, ca⟩ := c
  simp only at hL
  subst hL
  have XN := fun v => I.inbox_new ci v
  simp only [G.cfv, G.cfc] at *
  have N0 : Hid (Bk (w.alloc (.cells #[.int .i64 cw, .int .i64 ch, .int .i64 (L : Int), .int .i64 cd, .int .i64 cr, .int .i64 ci, .int .i64 cb, .bool we, .bool ca] 23)) w.heap.size #[.int .i64 cw, .int .i64 ch, .int .i64 (L : Int), .int .i64 cd, .int .i64 cr, .int .i64 ci, .int .i64 cb, .bool we, .bool ca] 23) := Bk.new _ _ _
  have B0 : Hid (Below w.heap.size w (w.alloc (.cells #[.int .i64 cw, .int .i64 ch, .int .i64 (L : Int), .int .i64 cd, .int .i64 cr, .int .i64 ci, .int .i64 cb, .bool we, .bool ca] 23))) := (Below.refl _ _).alloc (Nat.le_refl _) _
  have HA0 : Hid (w.heap.size < (w.alloc (.cells #[.int .i64 cw, .int .i64 ch, .int .i64 (L : Int), .int .i64 cd, .int .i64 cr, .int .i64 ci, .int .i64 cb, .bool we, .bool ca] 23)).heap.size) := show _ < _ from by simp
  go_enter Tryz.func8, Tryz.ntmps8
  go_upto_region 1 with fail
  generalize w.alloc (.cells #[.int .i64 cw, .int .i64 ch, .int .i64 (L : Int), .int .i64 cd, .int .i64 cr, .int .i64 ci, .int .i64 cb, .bool we, .bool ca] 23) = v at *
  have HB : Hid (Below w.heap.size w v) := B0.out
  obtain ⟨A, hA⟩ : ∃ x, w.heap.size = x := ⟨_, rfl⟩
  have HWA : Hid (w.heap.size = A) := hA
  rw [hA] at N0 ⊢
  clear hA
  obtain ⟨k0, k1, k2, k3, k4, k5, k6, k7, k8⟩ := ncfg N0.out
  go_upto_region 3 with (go_at_call 25; with_reducible refine (IC _).mono ?_; rintro e w1 ⟨rfl, b1⟩)
  have N1 : Hid (Bk w1 A #[.int .i64 cw, .int .i64 ch, .int .i64 (L : Int), .int .i64 cd, .int .i64 cr, .int .i64 ci, .int .i64 cb, .bool we, .bool ca] 23) := N0.out.next b1
  have B1 : Hid (Below w.heap.size w w1) := HB.out.trans (b1.mono HB.out.size)
  clear IC b1 N0 k0 k1 k2 k3 k4 k5 k6 k7 k8 HB B0 HA0
  obtain ⟨k0, k1, k2, k3, k4, k5, k6, k7, k8⟩ := ncfg N1.out

  clear k0 k1 k2 k3 k4 k5 k6 k7 k8
  have TS : Hid (∀ u, Below w1.heap.size w1 u → Bk u A #[.int .i64 cw, .int .i64 ch, .int .i64 (L : Int), .int .i64 cd, .int .i64 cr, .int .i64 ci, .int .i64 cb, .bool we, .bool ca] 23) := show _ from fun u hu => N1.out.next hu
  have D0 : Below w1.heap.size w1 w1.drew := (Below.refl _ _).drew
  have T0 := ncfg (TS.out _ D0)
  refine wp_region_G (fun V => V.cell? ⟨A, 0, none⟩ = some (.int .i64 cw) ∧ V.cell? ⟨A, 1, none⟩ = some (.int .i64 ch) ∧ V.cell? ⟨A, 2, none⟩ = some (.int .i64 (L : Int)) ∧ V.cell? ⟨A, 3, none⟩ = some (.int .i64 cd) ∧ V.cell? ⟨A, 4, none⟩ = some (.int .i64 cr) ∧ V.cell? ⟨A, 5, none⟩ = some (.int .i64 ci) ∧ V.cell? ⟨A, 6, none⟩ = some (.int .i64 cb) ∧ V.cell? ⟨A, 7, none⟩ = some (.bool we) ∧ V.cell? ⟨A, 8, none⟩ = some (.bool ca)) 7 (by kernel_rfl) ?_
  refine wpAnyG_take [1, 2, 5, 6, 7] (some 12) (i := 0) (v := ?v0) rfl rfl (by kernel_rfl) (by kernel_rfl) (by kernel_rfl) (by kernel_rfl) (fun _ _ _ h => h) (Or.inl ⟨by rfl, ?y0⟩) T0 ?r0
  case y0 => (intro V hSV; obtain ⟨s0, s1, s2, s3, s4, s5, s6, s7, s8⟩ := hSV; go_simp; try with_reducible rfl)
  try simp only [Act.put, List.setIfInBounds_toArray, List.set_cons_zero, List.set_cons_succ]
  refine wpAnyG_take [2, 5, 6, 7] (some 13) (i := 1) (v := ?v1) rfl rfl (by kernel_rfl) (by kernel_rfl) (by kernel_rfl) (by kernel_rfl) (fun _ _ _ h => h) (Or.inl ⟨by rfl, ?y1⟩) T0 ?r1
  case y1 => (intro V hSV; obtain ⟨s0, s1, s2, s3, s4, s5, s6, s7, s8⟩ := hSV; go_simp; try with_reducible rfl)
  try simp only [Act.put, List.setIfInBounds_toArray, List.set_cons_zero, List.set_cons_succ]
  refine wpAnyG_take [5, 6, 7] (some 15) (i := 3) (v := ?v3) rfl rfl (by kernel_rfl) (by kernel_rfl) (by kernel_rfl) (by kernel_rfl) (fun _ _ _ h => h) (Or.inl ⟨by rfl, ?y3⟩) T0 ?r3
  case y3 => (intro V hSV; obtain ⟨s0, s1, s2, s3, s4, s5, s6, s7, s8⟩ := hSV; go_simp; try with_reducible rfl)
  try simp only [Act.put, List.setIfInBounds_toArray, List.set_cons_zero, List.set_cons_succ]
  refine wpAnyG_take [5, 6, 7] (some 16) (i := 4) (v := ?v4) rfl rfl (by kernel_rfl) (by kernel_rfl) (by kernel_rfl) (by kernel_rfl) (fun _ _ _ h => h) (Or.inl ⟨by rfl, ?y4⟩) T0 ?r4
  case y4 => (intro V hSV; obtain ⟨s0, s1, s2, s3, s4, s5, s6, s7, s8⟩ := hSV; go_simp; try with_reducible rfl)
  try simp only [Act.put, List.setIfInBounds_toArray, List.set_cons_zero, List.set_cons_succ]
  generalize w1.drew = v4 at *
  refine wpAnyG_one (i := 2) (by kernel_rfl) rfl (fun K hK => ?_)
  go_simp
  with_reducible refine (XN _).mono ?_
  rintro e w2 ⟨ib, F, rfl, x1, x2, x3⟩
  have D1 : Below w1.heap.size w1 w2 := D0.trans (x2.mono D0.size)
  have T1 := ncfg (TS.out _ D1)
  refine hK.out _ _ (Or.inr T1) ?_
  clear hK K
  try simp only [Act.put, List.setIfInBounds_toArray, List.set_cons_zero, List.set_cons_succ]
  refine wpAnyG_one (i := 5) (by kernel_rfl) rfl (fun K hK => ?_)
  go_simp
  refine hK.out _ _ (Or.inr T1) ?_
  clear hK K
  try simp only [Act.put, List.setIfInBounds_toArray, List.set_cons_zero, List.set_cons_succ]
  refine wpAnyG_one (i := 6) (by kernel_rfl) rfl (fun K hK => ?_)
  go_simp
  refine hK.out _ _ (Or.inr T1) ?_
  clear hK K
  try simp only [Act.put, List.setIfInBounds_toArray, List.set_cons_zero, List.set_cons_succ]
  refine wpAnyG_one (i := 7) (by kernel_rfl) rfl (fun K hK => ?_)
  go_simp
  refine hK.out _ _ (Or.inl (by kernel_rfl)) ?_
  clear hK K
  try simp only [Act.put, List.setIfInBounds_toArray, List.set_cons_zero, List.set_cons_succ]
  refine wpAnyG_one (i := 8) (by kernel_rfl) rfl (fun K hK => ?_)
  go_simp
  refine hK.out _ _ (Or.inl (by kernel_rfl)) ?_
  clear hK K
  try simp only [Act.put, List.setIfInBounds_toArray, List.set_cons_zero, List.set_cons_succ]
  refine wpAnyG_done (by kernel_rfl) ?_ _
  have HZ : (ncl ib ⟨⟨cw, ch, (L : Int), cd, cr, ci, cb, we, ca⟩, nd, 0, 0⟩ (.slice none 0 0) (jp (L : Int) (fun _ => 0) 0)).toArray = #[.pointer (some ⟨ib, 0, none⟩), .int .i64 cw, .int .i64 ch, .int .i64 (L : Int), .int .i64 cd, .int .i64 cr, .int .i64 ci, .int .i64 cb, .bool we, .bool ca, .int .i64 nd, .int .i64 0, .int .i64 0, .slice none 0 0, .pointer none, .pointer none, .pointer none, .pointer none, .pointer none, .pointer none, .pointer none, .pointer none, .pointer none, .pointer none, .pointer none, .pointer none, .pointer none, .pointer none, .pointer none, .pointer none, .pointer none, .pointer none, .pointer none, .pointer none, .pointer none, .pointer none, .pointer none, .pointer none, .pointer none, .pointer none, .pointer none, .pointer none, .pointer none, .pointer none, .pointer none, .pointer none, .pointer none, .pointer none, .pointer none, .pointer none, .pointer none, .pointer none, .pointer none, .pointer none] := rfl
  have x4 : Below w.heap.size w w2 := B1.out.trans (D1.mono B1.out.size)
  have LY := Lay.start (w := w) (v := w2) (c := ⟨cw, ch, (L : Int), cd, cr, ci, cb, we, ca⟩) (nd := nd) (F := F) x1 x4 (fun g hg => Nat.le_trans (Nat.le_trans B1.out.size D0.size) (x3 g hg))
  rw [HZ] at LY
  have N2 : Hid (Bk (w2.alloc (.cells #[.pointer (some ⟨ib, 0, none⟩), .int .i64 cw, .int .i64 ch, .int .i64 (L : Int), .int .i64 cd, .int .i64 cr, .int .i64 ci, .int .i64 cb, .bool we, .bool ca, .int .i64 nd, .int .i64 0, .int .i64 0, .slice none 0 0, .pointer none, .pointer none, .pointer none, .pointer none, .pointer none, .pointer none, .pointer none, .pointer none, .pointer none, .pointer none, .pointer none, .pointer none, .pointer none, .pointer none, .pointer none, .pointer none, .pointer none, .pointer none, .pointer none, .pointer none, .pointer none, .pointer none, .pointer none, .pointer none, .pointer none, .pointer none, .pointer none, .pointer none, .pointer none, .pointer none, .pointer none, .pointer none, .pointer none, .pointer none, .pointer none, .pointer none, .pointer none, .pointer none, .pointer none, .pointer none] 75)) A #[.int .i64 cw, .int .i64 ch, .int .i64 (L : Int), .int .i64 cd, .int .i64 cr, .int .i64 ci, .int .i64 cb, .bool we, .bool ca] 23) := (TS.out _ D1).alloc _
  have HAb : Hid (A < w2.heap.size) := (TS.out _ D1).lt
  clear HZ x1 x2 x3 x4 T1 D0 D1 N1 TS T0 B1
  generalize w2.alloc (.cells #[.pointer (some ⟨ib, 0, none⟩), .int .i64 cw, .int .i64 ch, .int .i64 (L : Int), .int .i64 cd, .int .i64 cr, .int .i64 ci, .int .i64 cb, .bool we, .bool ca, .int .i64 nd, .int .i64 0, .int .i64 0, .slice none 0 0, .pointer none, .pointer none, .pointer none, .pointer none, .pointer none, .pointer none, .pointer none, .pointer none, .pointer none, .pointer none, .pointer none, .pointer none, .pointer none, .pointer none, .pointer none, .pointer none, .pointer none, .pointer none, .pointer none, .pointer none, .pointer none, .pointer none, .pointer none, .pointer none, .pointer none, .pointer none, .pointer none, .pointer none, .pointer none, .pointer none, .pointer none, .pointer none, .pointer none, .pointer none, .pointer none, .pointer none, .pointer none, .pointer none, .pointer none, .pointer none] 75) = v5 at *
  generalize w2.heap.size = b at *
  have HLY : Hid (Lay w v5 b ib ⟨cw, ch, (L : Int), cd, cr, ci, cb, we, ca⟩ nd F (fun _ => 0) 0) := LY
  clear LY
  go_wp2_with fail
  go_loopw [20] (fun x wr => ∃ (p : Nat) (jb : Nat → Nat), p ≤ 5 ∧ x = .int .i64 (p : Int) ∧ Lay w wr b ib ⟨cw, ch, (L : Int), cd, cr, ci, cb, we, ca⟩ nd F jb (p * 8) ∧ Bk wr A #[.int .i64 cw, .int .i64 ch, .int .i64 (L : Int), .int .i64 cd, .int .i64 cr, .int .i64 ci, .int .i64 cb, .bool we, .bool ca] 23) (fun x _ => 5 - (RowKit.intOf x).toNat)
  case atStart => exact ⟨0, _, Nat.zero_le _, rfl, HLY.out, N2.out⟩
  case round =>
    clear HLY N2
    obtain ⟨p, jb, hp, rfl, ly, bk⟩ := hrel
    have LP : Hid (Lay w wr b ib ⟨cw, ch, (L : Int), cd, cr, ci, cb, we, ca⟩ nd F jb (p * 8)) := ly
    have NA : Hid (Bk wr A #[.int .i64 cw, .int .i64 ch, .int .i64 (L : Int), .int .i64 cd, .int .i64 cr, .int .i64 ci, .int .i64 cb, .bool we, .bool ca] 23) := bk
    clear ly bk
    by_cases hlt : p < 5
    case neg =>
      have e1 : ¬ (p : Int) < 5 := by omega
      obtain rfl : p = 5 := by omega
      clear hp hlt
      go_wp2
      go_ret
      exact ⟨b, rfl, ib, F, jb, LP.out⟩
    have e1 : (p : Int) < 5 := by omega
    have HP : Hid (p < 5) := hlt
    clear hp hlt
    obtain ⟨k0, k1, k2, k3, k4, k5, k6, k7, k8⟩ := ncfg NA.out
    go_wp2_with fail
    clear k0 k1 k2 k3 k4 k5 k6 k7 k8
    obtain ⟨wo, rfl⟩ : ∃ wo : World, wo = wr := ⟨_, rfl⟩
    go_loopw [25] (fun x wq => ∃ (l : Nat) (jb : Nat → Nat), l ≤ L ∧ x = .int .i64 (l : Int) ∧ Lay w wq b ib ⟨cw, ch, (L : Int), cd, cr, ci, cb, we, ca⟩ nd F jb (p * 8 + l) ∧ Bk wq A #[.int .i64 cw, .int .i64 ch, .int .i64 (L : Int), .int .i64 cd, .int .i64 cr, .int .i64 ci, .int .i64 cb, .bool we, .bool ca] 23) (fun x _ => L - (RowKit.intOf x).toNat)
    case atStart => exact ⟨0, jb, Nat.zero_le _, rfl, LP.out, NA.out⟩
    case round =>
      clear LP NA
      obtain ⟨l, jb, hl, rfl, ly, bk⟩ := hrel
      have LP : Hid (Lay w wr b ib ⟨cw, ch, (L : Int), cd, cr, ci, cb, we, ca⟩ nd F jb (p * 8 + l)) := ly
      have NA : Hid (Bk wr A #[.int .i64 cw, .int .i64 ch, .int .i64 (L : Int), .int .i64 cd, .int .i64 cr, .int .i64 ci, .int .i64 cb, .bool we, .bool ca] 23) := bk
      clear ly bk
      by_cases hlt : l < L
      case neg =>
        have g1 : ¬ (l : Int) < (L : Int) := by omega
        have hL := HL.out
        have LQ : Hid (Lay w wr b ib ⟨cw, ch, (L : Int), cd, cr, ci, cb, we, ca⟩ nd F jb ((p + 1) * 8)) := LP.out.port g1 (by omega)
        have hp := HP.out
        clear LP
        go_wp2
        go_roundw
        case rel => exact ⟨p + 1, jb, by omega, by go_num, LQ.out, NA.out⟩
        case measure => simp [RowKit.intOf]; omega
      have g1 : (l : Int) < (L : Int) := by omega
      have HM : Hid (l < L) := hlt
      clear hl hlt
      go_upto_region 10 with fail
      have hL := HL.out
      have hp := HP.out
      have hl := HM.out
      have D0 : Below wr.heap.size wr wr.drew := (Below.refl _ _).drew
      have LD : Lay w wr.drew b ib ⟨cw, ch, (L : Int), cd, cr, ci, cb, we, ca⟩ nd F jb (p * 8 + l) := LP.out.next D0
      have ND := NA.out.next D0
      have mm : (p * 8 + l) % 8 = l := by omega
      have LE : Hid (Lay w ((wr.drew.alloc (.cells (pj zjs) 104)).setCell ⟨b, 14 + (p * 8 + l), none⟩ (.pointer (some ⟨wr.drew.heap.size, 0, none⟩))) b ib ⟨cw, ch, (L : Int), cd, cr, ci, cb, we, ca⟩ nd F (fun k => if k = p * 8 + l then wr.drew.heap.size else jb k) (p * 8 + l + 1)) := LD.more (by rw [mm]; exact g1)
      have NE : Hid (Bk ((wr.drew.alloc (.cells (pj zjs) 104)).setCell ⟨b, 14 + (p * 8 + l), none⟩ (.pointer (some ⟨wr.drew.heap.size, 0, none⟩))) A #[.int .i64 cw, .int .i64 ch, .int .i64 (L : Int), .int .i64 cd, .int .i64 cr, .int .i64 ci, .int .i64 cb, .bool we, .bool ca] 23) := (ND.alloc _).far (Nat.ne_of_lt HAb.out)
      have f0 := (LD.nb.alloc (.cells (pj zjs) 104)).free (14 + (p * 8 + l))
      have c0 := (LD.nb.alloc (.cells (pj zjs) 104)).cj (k := p * 8 + l) (by omega)
      have q1 : (0 : Int) ≤ (p : Int) := by omega
      have q2 : (p : Int) < 5 := by omega
      have q3 : (0 : Int) ≤ (l : Int) := by omega
      have q4 : (l : Int) < 8 := by omega
      have q5 : 14 + (p * 8 + l) = 14 + p * 8 + l := by omega
      rw [q5] at LE NE f0 c0
      clear LP NA LD ND mm hL hp hl q5
      refine wp_region_G (fun V => True) 9 (by kernel_rfl) ?_
      generalize wr.drew = v4 at *
      refine wpAnyG_take [8, 9] (some 28) (i := 0) (v := ?vb0) rfl rfl (by kernel_rfl) (by kernel_rfl) (by kernel_rfl) (by kernel_rfl) (fun _ _ _ h => h) (Or.inl ⟨by rfl, ?yb0⟩) trivial ?rb0
      case yb0 => (intro V hSV; go_simp; try with_reducible rfl)
      try simp only [Act.put, List.setIfInBounds_toArray, List.set_cons_zero, List.set_cons_succ]
      refine wpAnyG_take [8, 9] (some 29) (i := 1) (v := ?vb1) rfl rfl (by kernel_rfl) (by kernel_rfl) (by kernel_rfl) (by kernel_rfl) (fun _ _ _ h => h) (Or.inl ⟨by rfl, ?yb1⟩) trivial ?rb1
      case yb1 => (intro V hSV; go_simp; try with_reducible rfl)
      try simp only [Act.put, List.setIfInBounds_toArray, List.set_cons_zero, List.set_cons_succ]
      refine wpAnyG_take [8, 9] (some 30) (i := 2) (v := ?vb2) rfl rfl (by kernel_rfl) (by kernel_rfl) (by kernel_rfl) (by kernel_rfl) (fun _ _ _ h => h) (Or.inl ⟨by rfl, ?yb2⟩) trivial ?rb2
      case yb2 => (intro V hSV; go_simp; try with_reducible rfl)
      try simp only [Act.put, List.setIfInBounds_toArray, List.set_cons_zero, List.set_cons_succ]
      refine wpAnyG_take [5, 6, 7, 8, 9] (some 32) (i := 4) (v := ?vb4) rfl rfl (by kernel_rfl) (by kernel_rfl) (by kernel_rfl) (by kernel_rfl) (fun _ _ _ h => h) (Or.inl ⟨by rfl, ?yb4⟩) trivial ?rb4
      case yb4 => (intro V hSV; go_simp; try with_reducible rfl)
      try simp only [Act.put, List.setIfInBounds_toArray, List.set_cons_zero, List.set_cons_succ]
      refine wpAnyG_take [6, 7, 8, 9] (some 33) (i := 5) (v := ?vb5) rfl rfl (by kernel_rfl) (by kernel_rfl) (by kernel_rfl) (by kernel_rfl) (fun _ _ _ h => h) (Or.inl ⟨by rfl, ?yb5⟩) trivial ?rb5
      case yb5 => (intro V hSV; go_simp; try with_reducible rfl)
      try simp only [Act.put, List.setIfInBounds_toArray, List.set_cons_zero, List.set_cons_succ]
      refine wpAnyG_take [7, 8, 9] (some 34) (i := 6) (v := ?vb6) rfl rfl (by kernel_rfl) (by kernel_rfl) (by kernel_rfl) (by kernel_rfl) (fun _ _ _ h => h) (Or.inl ⟨by rfl, ?yb6⟩) trivial ?rb6
      case yb6 => (intro V hSV; go_simp; try with_reducible rfl)
      try simp only [Act.put, List.setIfInBounds_toArray, List.set_cons_zero, List.set_cons_succ]
      refine wpAnyG_take [8, 9] (some 35) (i := 7) (v := ?vb7) rfl rfl (by kernel_rfl) (by kernel_rfl) (by kernel_rfl) (by kernel_rfl) (fun _ _ _ h => h) (Or.inl ⟨by rfl, ?yb7⟩) trivial ?rb7
      case yb7 => (intro V hSV; go_simp; try with_reducible rfl)
      try simp only [Act.put, List.setIfInBounds_toArray, List.set_cons_zero, List.set_cons_succ]
      refine wpAnyG_one (i := 3) (by kernel_rfl) rfl (fun K hK => ?_)
      go_simp
      with_reducible refine (JN _).mono ?_
      rintro e v6 ⟨rfl, rfl⟩
      
      refine hK.out _ _ (Or.inr trivial) ?_
      clear hK K
      try simp only [Act.put, List.setIfInBounds_toArray, List.set_cons_zero, List.set_cons_succ]
      refine wpAnyG_take [9] (some 36) (i := 8) (v := ?vb8) rfl rfl (by kernel_rfl) (by kernel_rfl) (by kernel_rfl) (by kernel_rfl) (fun _ _ _ h => h) (Or.inl ⟨by rfl, ?yb8⟩) trivial ?rb8
      case yb8 => (intro V hSV; go_simp; try with_reducible rfl)
      try simp only [Act.put, List.setIfInBounds_toArray, List.set_cons_zero, List.set_cons_succ]
      refine wpAnyG_one (i := 9) (by kernel_rfl) rfl (fun K hK => ?_)
      go_simp
      refine hK.out _ _ (Or.inl (by kernel_rfl)) ?_
      clear hK K
      try simp only [Act.put, List.setIfInBounds_toArray, List.set_cons_zero, List.set_cons_succ]
      refine wpAnyG_done (by kernel_rfl) ?_ _
      generalize (v4.alloc (.cells (pj zjs) 104)).setCell ⟨b, 14 + p * 8 + l, none⟩ (.pointer (some ⟨v4.heap.size, 0, none⟩)) = v7 at *
      have hl := HM.out
      clear f0 c0 q1 q2 D0
      go_wp2
      go_roundw
      case rel => exact ⟨l + 1, _, by omega, by go_num, LE.out, NE.out⟩
      case measure => simp [RowKit.intOf]; omega
end Go.Proofs.YtoejpngdkcnnhaaGreat
