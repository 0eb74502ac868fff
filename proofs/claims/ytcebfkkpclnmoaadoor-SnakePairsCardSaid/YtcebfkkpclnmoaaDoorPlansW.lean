/-
  The walk of SnakePlans. (Written by gen_plansw.py.)
-/
import Derived.Test.YtcebfkkpclnmoaaDoorLives
import Derived.Test.YtcebfkkpclnmoaaDoorRplan
import Derived.Test.YtcebfkkpclnmoaaDoorSame
import Derived.Deep.CutRange
namespace Go.Proofs.YtcebfkkpclnmoaaDoor
open Go.RowKit

/-- A block of three rows. -/
def B3 (v : World) (b : Nat) (x y z : Value) : Prop := v.heap[b]? = some (.cells #[x, y, z] 33 (0, 0))
theorem B3.next {v v' : World} {b : Nat} {x y z : Value} (h : B3 v b x y z) (hb : Below v.heap.size v v') : B3 v' b x y z := by
  unfold B3 at h ⊢
  rw [hb.block _ (lt_of_heap h)]
  exact h
theorem B3.new (v : World) (x y z : Value) : B3 (v.alloc (.cells #[x, y, z] 33)) v.heap.size x y z := heap_alloc_new v _
theorem B3.cells {v : World} {b : Nat} {x y z : Value} (h : B3 v b x y z) : v.cell? ⟨b, 0, none⟩ = some x ∧ v.cell? ⟨b, 1, none⟩ = some y ∧ v.cell? ⟨b, 2, none⟩ = some z := ⟨cell_of h 0, cell_of h 1, cell_of h 2⟩
/-- Three rows, wherever they lie. -/
structure R3i (v : World) (a b d : Option Addr) (G L S : List Int) : Prop where
  g : Rd v a (vi G)
  l : Rd v b (vi L)
  s : Rd v d (vi S)
theorem R3i.mk' {v : World} {B : Nat} {a b d : Option Addr} {n m k x y z : Nat} {G L S : List Int} (ha : Own 3 v B (.slice a n x) (vi G)) (hb : Own 3 v B (.slice b m y) (vi L)) (hd : Own 3 v B (.slice d k z) (vi S)) : R3i v a b d G L S := by
  have f : ∀ {a : Option Addr} {n x : Nat} {l : List Int}, Own 3 v B (.slice a n x) (vi l) → Rd v a (vi l) := fun h => by
    obtain ⟨a', c', e, _, _, r⟩ := h.rd
    simp only [Value.slice.injEq] at e
    rw [e.1]
    exact r
  exact ⟨f ha, f hb, f hd⟩
theorem R3i.below {v v' : World} {a b d : Option Addr} {G L S : List Int} (h : R3i v a b d G L S) (hb : Below v.heap.size v v') : R3i v' a b d G L S := ⟨h.g.below hb, h.l.below hb, h.s.below hb⟩
theorem below_drewN (v : World) (n : Nat) : Below v.heap.size v (v.drewN n) := ⟨rfl, rfl, rfl, Nat.le_refl _, fun _ _ => rfl⟩
theorem below_new (v : World) (o : Obj) : Below v.heap.size v (v.alloc o) := (Below.refl _ _).alloc (Nat.le_refl _) _

theorem few_any (s : Option Addr) (n cap k : Nat) (w : World) (h : n ≤ cap) (hk : min n 12 = k) : Calls Tryd.prog 17 #[.slice s n cap] w fun e w' => e = .returned (.slice s k cap) ∧ w' = w := by
  have e : ((min (n : Int) 12)) = (k : Int) := by omega
  have h1 : (k : Int) ≤ (cap : Int) := by omega
  have h0 : (0 : Int) ≤ k := by omega
  clear hk h
  go_enter Tryd.func17, Tryd.ntmps17
  go_wp2
  go_ret
  exact ⟨rfl, rfl⟩

set_option maxRecDepth 100000 in
set_option maxHeartbeats 4000000 in
theorem snakePlans_any (c : Cf) (a : Int) (s : Option Addr) (ls : List Int) (cap : Nat) (w : World) (hlc : ls.length ≤ cap) (hr : RdA w s (vi ls)) (hS : Steps w) : Calls Tryd.prog 4 #[cfv c, .int .i64 a, .slice s ls.length cap] w fun e w' => e = .returned (.bool true) ∧ Below w.heap.size w w' := by
  have T0 : Hid (W1 w c (w.alloc (.cells (cfc c) 23))) := W1.start _ _
  have LV := lives_any _ (T0.out.steps hS)
  obtain ⟨n, hn⟩ : ∃ n, (ls.take 12).length = n := ⟨_, rfl⟩
  have hmn : min ls.length 12 = n := by rw [← hn, List.length_take, Nat.min_comm]
  have hn12 : n ≤ 12 := by omega
  have FW := fun v => few_any s ls.length cap n v hlc hmn
  have HRZ : Hid (RdA w s (vi (ls.take 12))) := hr.take 12
  have HS : Hid (Steps w) := hS
  have K1 := fun v h => plan_any c a s (ls.take 12) cap v (by omega) h
  have K2 := fun v h => rplan_any c a s (ls.take 12) cap v (by omega) h
  have K3 := fun v h => rway_any c a s (ls.take 12) cap v (by omega) h
  have K4 := fun v hS h => way_any c a s (ls.take 12) cap v hS (by omega) h
  have K5 := fun v hS h => steps_any c a s (ls.take 12) cap v hS (by omega) h
  have lw := wys_len c a (ls.take 12)
  have hrw : (ls.take 12).length * 4096 ≤ 12 * 4096 := Nat.mul_le_mul_right _ (by omega)
  have lg : (plG c a (ls.take 12)).length ≤ 1000 := by
    unfold plG
    split
    · have := gtr_le c a (srt c (ls.take 12)); rw [srt_len] at this; omega
    · simp
  have ll : (plL c a (ls.take 12)).length ≤ 1000 := by
    unfold plL
    split
    · have := les_le c a (srt c (ls.take 12)); rw [srt_len] at this; omega
    · simp
  have ls' : (plS c a (ls.take 12)).length ≤ 1000 := by
    unfold plS
    split
    · have := sef_le c a (srt c (ls.take 12)); rw [srt_len] at this; omega
    · simp
  have RD : ∀ v e v', PlT c a (ls.take 12) v e v' → _ := fun v e v' h => PlT.rd h
  have hlw : (wys c a (ls.take 12)).length ≤ 100000 := by omega
  clear hr hS hlc hmn lw hrw
  unfold PlT at K1 K2 RD
  rw [hn] at K1 K2 K3 K4 K5
  generalize ls.take 12 = zs at *
  generalize ls.length = nl at *
  generalize (if plB c a zs = true then (0 : Int) else 6) = E at *
  generalize plG c a zs = G at *
  generalize plL c a zs = L at *
  generalize plS c a zs = S at *
  generalize wys c a zs = W at *
  obtain ⟨ng, hng⟩ : ∃ k, G.length = k := ⟨_, rfl⟩
  obtain ⟨nb, hnb⟩ : ∃ k, L.length = k := ⟨_, rfl⟩
  obtain ⟨ns, hns⟩ : ∃ k, S.length = k := ⟨_, rfl⟩
  obtain ⟨nw, hnw⟩ : ∃ k, W.length = k := ⟨_, rfl⟩
  have HL : Hid (G.length = ng ∧ L.length = nb ∧ S.length = ns ∧ W.length = nw) := ⟨hng, hnb, hns, hnw⟩
  rw [hnw] at hlw K5
  rw [hng, hnb, hns] at RD
  have hnx1 : IntKind.i64.wrap ((nw : Int) - 1) = (nw : Int) - 1 := IntWalk.i64_in _ (by omega)
  have SG := fun p q x y v => same_big G p q x y v (by omega)
  have SL := fun p q x y v => same_big L p q x y v (by omega)
  have SS := fun p q x y v => same_big S p q x y v (by omega)
  have SW := fun p q x y v => same_big W p q x y v (by omega)
  rw [hng] at SG
  rw [hnb] at SL
  rw [hns] at SS
  rw [hnw] at SW
  clear hn hng hnb hns hnw lg ll ls'
  obtain ⟨cw, ch, cl, cd, cr, ci, cb, we, ca⟩ := c
  simp only [cfv, cfc] at *
  go_enter Tryd.func4, Tryd.ntmps4
  go_wp2_with fail
  go_at_call 10
  refine LV.mono ?_
  rintro e v1 ⟨rfl, hb⟩
  have T1 : Hid (W1 w ⟨cw, ch, cl, cd, cr, ci, cb, we, ca⟩ v1) := T0.out.next hb
  clear hb LV T0
  by_cases hg : cw > 8 ∨ ch > 8
  · have HB : Hid (Below w.heap.size w v1) := T1.out.below
    clear K1 K2 K3 K4 K5 SG SL SS SW RD FW
    obtain ⟨x0, x1, x2, x3, x4, x5, x6, x7, x8⟩ := T1.out.cells
    simp only at x0 x1 x2 x3 x4 x5 x6 x7 x8
    rcases hg with hg | hg
    · go_wp2
      all_goals
        go_ret
        exact ⟨rfl, HB.out⟩
    · by_cases hg2 : cw > 8
      all_goals
        go_wp2
        all_goals
          go_ret
          exact ⟨rfl, HB.out⟩
  · obtain ⟨hg1, hg2⟩ : ¬ cw > 8 ∧ ¬ ch > 8 := by omega
    clear hg
    obtain ⟨x0, x1, x2, x3, x4, x5, x6, x7, x8⟩ := T1.out.cells
    simp only at x0 x1 x2 x3 x4 x5 x6 x7 x8
    go_wp2_with fail
    go_at_call 17
    refine (FW _).mono ?_
    rintro e u1 ⟨rfl, rfl⟩
    clear hg1 hg2 FW
    go_wp2_with fail
    go_at_call 18
    refine (K1 _ (HRZ.out.below T1.out.below)).mono ?_
    rintro e v2 h2
    obtain ⟨a1, a2, a3, m1, m2, m3, rfl, oa, ob, oc, hb⟩ := RD _ _ _ h2
    have T2 : Hid (W1 w ⟨cw, ch, cl, cd, cr, ci, cb, we, ca⟩ v2) := T1.out.next hb
    have Q1 : Hid (R3i v2 a1 a2 a3 G L S) := R3i.mk' oa ob oc
    have B2 := B3.new v2 (.slice a1 ng m1) (.slice a2 nb m2) (.slice a3 ns m3)
    have T3 : Hid (W1 w ⟨cw, ch, cl, cd, cr, ci, cb, we, ca⟩ (v2.alloc (.cells #[.slice a1 ng m1, .slice a2 nb m2, .slice a3 ns m3] 33))) := T2.out.next (below_new v2 _)
    have B3' : Hid (B3 (v2.alloc (.cells #[.slice a1 ng m1, .slice a2 nb m2, .slice a3 ns m3] 33)) v2.heap.size (.slice a1 ng m1) (.slice a2 nb m2) (.slice a3 ns m3)) := B2
    have Q3 : Hid (R3i (v2.alloc (.cells #[.slice a1 ng m1, .slice a2 nb m2, .slice a3 ns m3] 33)) a1 a2 a3 G L S) := Q1.out.below (below_new v2 _)
    clear hb h2 oa ob oc B2 K1 T1 T2 Q1 x0 x1 x2 x3 x4 x5 x6 x7 x8
    obtain ⟨x0, x1, x2, x3, x4, x5, x6, x7, x8⟩ := T3.out.cells
    simp only at x0 x1 x2 x3 x4 x5 x6 x7 x8
    go_wp2_with fail
    go_at_call 19
    refine (K2 _ (HRZ.out.below T3.out.below)).mono ?_
    rintro e v4 h4
    obtain ⟨b1, b2, b3, p1, p2, p3, rfl, oa, ob, oc, hb⟩ := RD _ _ _ h4
    have T4 : Hid (W1 w ⟨cw, ch, cl, cd, cr, ci, cb, we, ca⟩ v4) := T3.out.next hb
    have B4 : Hid (B3 v4 v2.heap.size (.slice a1 ng m1) (.slice a2 nb m2) (.slice a3 ns m3)) := B3'.out.next hb
    have Q4 : Hid (R3i v4 a1 a2 a3 G L S) := Q3.out.below hb
    have Q4' : Hid (R3i v4 b1 b2 b3 G L S) := R3i.mk' oa ob oc
    have hb5 := below_new v4 (.cells #[.slice b1 ng p1, .slice b2 nb p2, .slice b3 ns p3] 33)
    have T5 : Hid (W1 w ⟨cw, ch, cl, cd, cr, ci, cb, we, ca⟩ (v4.alloc (.cells #[.slice b1 ng p1, .slice b2 nb p2, .slice b3 ns p3] 33))) := T4.out.next hb5
    have B5 : Hid (B3 (v4.alloc (.cells #[.slice b1 ng p1, .slice b2 nb p2, .slice b3 ns p3] 33)) v2.heap.size (.slice a1 ng m1) (.slice a2 nb m2) (.slice a3 ns m3)) := B4.out.next hb5
    have B5' : Hid (B3 (v4.alloc (.cells #[.slice b1 ng p1, .slice b2 nb p2, .slice b3 ns p3] 33)) v4.heap.size (.slice b1 ng p1) (.slice b2 nb p2) (.slice b3 ns p3)) := B3.new v4 _ _ _
    have Q5 : Hid (R3i (v4.alloc (.cells #[.slice b1 ng p1, .slice b2 nb p2, .slice b3 ns p3] 33)) a1 a2 a3 G L S) := Q4.out.below hb5
    have Q5' : Hid (R3i (v4.alloc (.cells #[.slice b1 ng p1, .slice b2 nb p2, .slice b3 ns p3] 33)) b1 b2 b3 G L S) := Q4'.out.below hb5
    clear hb h4 oa ob oc K2 T3 T4 B3' B4 Q3 Q4 Q4' hb5 RD x0 x1 x2 x3 x4 x5 x6 x7 x8
    obtain ⟨x0, x1, x2, x3, x4, x5, x6, x7, x8⟩ := T5.out.cells
    simp only at x0 x1 x2 x3 x4 x5 x6 x7 x8
    go_wp2_with fail
    go_at_call 20
    refine (K3 _ (HRZ.out.below T5.out.below)).mono ?_
    rintro e v6 h6
    obtain ⟨aw, xw, rfl, _, rw6, _, hb⟩ := h6.rd
    rw [HL.out.2.2.2]
    have T6 : Hid (W1 w ⟨cw, ch, cl, cd, cr, ci, cb, we, ca⟩ v6) := T5.out.next hb
    have B6 : Hid (B3 v6 v2.heap.size (.slice a1 ng m1) (.slice a2 nb m2) (.slice a3 ns m3)) := B5.out.next hb
    have B6' : Hid (B3 v6 v4.heap.size (.slice b1 ng p1) (.slice b2 nb p2) (.slice b3 ns p3)) := B5'.out.next hb
    have Q6 : Hid (R3i v6 a1 a2 a3 G L S) := Q5.out.below hb
    have Q6' : Hid (R3i v6 b1 b2 b3 G L S) := Q5'.out.below hb
    have RW6 : Hid (Rd v6 aw (vi W)) := rw6
    clear hb h6 rw6 K3 T5 B5 B5' Q5 Q5' x0 x1 x2 x3 x4 x5 x6 x7 x8
    obtain ⟨y0, y1, y2⟩ := B6.out.cells
    obtain ⟨z0, z1, z2⟩ := B6'.out.cells
    go_wp2_with fail
    go_at_call 21
    refine (SG _ _ _ _ _ Q6.out.g Q6'.out.g).mono ?_
    rintro e v7 ⟨rfl, k7, rfl⟩
    go_wp2_with fail
    go_at_call 21
    refine (SL _ _ _ _ _ (Q6.out.l.below (below_drewN v6 k7)) (Q6'.out.l.below (below_drewN v6 k7))).mono ?_
    rintro e v8 ⟨rfl, k8, rfl⟩
    go_wp2_with fail
    go_at_call 21
    refine (SS _ _ _ _ _ (Q6.out.s.below (below_drewN v6 (k7 + k8))) (Q6'.out.s.below (below_drewN v6 (k7 + k8)))).mono ?_
    rintro e v9 ⟨rfl, k9, rfl⟩
    have hb9 : Below v6.heap.size v6 ((v6.drewN (k7 + k8)).drewN k9) := (below_drewN v6 (k7 + k8)).trans (below_drewN (v6.drewN (k7 + k8)) k9)
    generalize (v6.drewN (k7 + k8)).drewN k9 = v9 at *
    have T9 : Hid (W1 w ⟨cw, ch, cl, cd, cr, ci, cb, we, ca⟩ v9) := T6.out.next hb9
    have RW9 : Hid (Rd v9 aw (vi W)) := RW6.out.below hb9
    clear hb9 T6 B6 B6' Q6 Q6' RW6 SG SL SS y0 y1 y2 z0 z1 z2
    obtain ⟨x0, x1, x2, x3, x4, x5, x6, x7, x8⟩ := T9.out.cells
    simp only at x0 x1 x2 x3 x4 x5 x6 x7 x8
    go_wp2_with fail
    go_at_call 22
    refine (K4 _ (T9.out.steps HS.out) (HRZ.out.below T9.out.below)).mono ?_
    rintro e v10 h10
    obtain ⟨ay, xy, rfl, _, ry, _, hb⟩ := h10.rd
    rw [HL.out.2.2.2]
    have T10 : Hid (W1 w ⟨cw, ch, cl, cd, cr, ci, cb, we, ca⟩ v10) := T9.out.next hb
    have RW10 : Hid (Rd v10 aw (vi W)) := RW9.out.below hb
    clear hb h10 K4 T9 RW9 x0 x1 x2 x3 x4 x5 x6 x7 x8
    go_wp2_with fail
    go_at_call 21
    refine (SW _ _ _ _ _ ry RW10.out).mono ?_
    rintro e v11 ⟨rfl, k11, rfl⟩
    have T11 : Hid (W1 w ⟨cw, ch, cl, cd, cr, ci, cb, we, ca⟩ (v10.drewN k11)) := T10.out.drewN k11
    clear ry SW T10 RW10
    obtain ⟨x0, x1, x2, x3, x4, x5, x6, x7, x8⟩ := T11.out.cells
    simp only at x0 x1 x2 x3 x4 x5 x6 x7 x8
    go_wp2_with fail
    go_at_call 23
    refine (K5 _ (T11.out.steps HS.out) (HRZ.out.below T11.out.below)).mono ?_
    rintro e v12 ⟨rfl, hb⟩
    have HB : Hid (Below w.heap.size w v12) := (T11.out.next hb).below
    clear hb K5 T11 x0 x1 x2 x3 x4 x5 x6 x7 x8
    go_wp2
    go_ret
    exact ⟨rfl, HB.out⟩
end Go.Proofs.YtcebfkkpclnmoaaDoor
