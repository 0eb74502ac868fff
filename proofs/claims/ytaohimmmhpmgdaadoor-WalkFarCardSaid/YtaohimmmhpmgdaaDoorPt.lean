/-
  The walks of Ports and Channels, at a way.
-/
import Derived.Test.YtaohimmmhpmgdaaDoorWay
import Derived.Test.YtaohimmmhpmgdaaDoorPairs
namespace Go.Proofs.YtaohimmmhpmgdaaDoor
open Go.RowKit

theorem Tryd.info30 : (Tryd.prog.info? 30).map (fun i => (i.zero, i.size, i.bytes)) = some (some (.agg #[.int .i64 0, .int .i64 0]), 2, 16) := by kernel_rfl

/-- A list of numbers is answered, in new memory, and true. -/
def RowB (w : World) (l : List Int) (e : Ending) (w' : World) : Prop := ∃ v, e = .returned (.tuple #[v, .bool true]) ∧ Own 3 w' w.heap.size v (vi l) ∧ Below w.heap.size w w'
theorem RowB.mk {w w' : World} {l : List Int} {v : Value} (h : Own 3 w' w.heap.size v (vi l)) (hb : Below w.heap.size w w') : RowB w l (.returned (.tuple #[v, .bool true])) w' := ⟨v, rfl, h, hb⟩
/-- Nodes and ports. -/
def chK (f g : Nat → Int) (k : Nat) : List (Int × Int) := (List.range k).map fun i => (f i, g i)
theorem chK_len (f g : Nat → Int) (k : Nat) : (chK f g k).length = k := by unfold chK; simp
theorem chK_succ (f g : Nat → Int) (k : Nat) : chK f g k ++ [(f k, g k)] = chK f g (k + 1) := by unfold chK; rw [List.range_succ, List.map_append]; rfl
theorem chK_at (f g : Nat → Int) {k i : Nat} (h : i < k) : (chK f g k).getD i (0, 0) = (f i, g i) := by unfold chK; simp [List.getD_eq_getElem?_getD, h]
def RowC (w : World) (l : List (Int × Int)) (e : Ending) (w' : World) : Prop := ∃ v, e = .returned (.tuple #[v, .bool true]) ∧ OwnP 30 w' w.heap.size v l ∧ Below w.heap.size w w'
theorem RowC.mk {w w' : World} {l : List (Int × Int)} {v : Value} (h : OwnP 30 w' w.heap.size v l) (hb : Below w.heap.size w w') : RowC w l (.returned (.tuple #[v, .bool true])) w' := ⟨v, rfl, h, hb⟩
/-- One place of a row that is read. -/
theorem RdA.at {w : World} {s : Option Addr} {f : Nat → Int} {n i : Nat} (h : RdA w s (vi (wyK f n))) (hi : i < n) : ∃ g o, s = some ⟨g, o, none⟩ ∧ g < w.heap.size ∧ w.cell? ⟨g, o + i, none⟩ = some (.int .i64 (f i)) := by
  have hv := vi_at (l := wyK f n) (k := i) (by rw [wyK_len]; exact hi)
  rw [wyK_at f hi] at hv
  exact h i _ hv
theorem RdA.two {w : World} {s : Option Addr} {f : Nat → Int} {n i j : Nat} (h : RdA w s (vi (wyK f n))) (hi : i < n) (hj : j < n) : ∃ g o, s = some ⟨g, o, none⟩ ∧ g < w.heap.size ∧ w.cell? ⟨g, o + i, none⟩ = some (.int .i64 (f i)) ∧ w.cell? ⟨g, o + j, none⟩ = some (.int .i64 (f j)) := by
  obtain ⟨g, o, rfl, h1, h2⟩ := h.at hi
  obtain ⟨g', o', e, _, h3⟩ := h.at hj
  simp only [Option.some.injEq, Addr.mk.injEq] at e
  obtain ⟨rfl, rfl, _⟩ := e
  exact ⟨g, o, rfl, h1, h2, h3⟩

set_option maxRecDepth 100000 in
set_option maxHeartbeats 2000000 in
theorem wports_any (c : Cf) (f g : Nat → Int) (n : Nat) (s : Option Addr) (cap : Nat) (w : World) (hS : Steps w) (hn : n ≤ 1000) (hr : RdA w s (vi (wyK f (n + 1)))) (hst : ∀ k, k < n → bsN c (f k) (g k) = f (k + 1) ∧ bsB c (f k) (g k) = true) :
    Calls Tryd.prog 22 #[cfv c, .slice s (n + 1) cap] w (RowB w (wyK g n)) := by
  obtain ⟨i0, ki, hz0, hz1, hz2⟩ := info_parts Tryd.info3
  have A0 : Hid (At w c (w.alloc (.cells (cfc c) 29))) := At.start w c
  have HS : Hid (Steps w) := hS
  have HR : Hid (RdA w s (vi (wyK f (n + 1)))) := hr
  have LE : ∀ k, k < n → ∀ v, Steps v → Calls Tryd.prog 35 #[cfv c, .int .i64 (f k), .int .i64 (f (k + 1))] v fun e w' => e = .returned (.tuple #[.int .i64 (g k), .bool true]) ∧ Below v.heap.size v w' := fun k hk v h => by
    have := leading_any c (f k) (g k) v (hst k hk).2 h
    rw [(hst k hk).1] at this
    exact this
  obtain ⟨t, ht⟩ : ∃ t, n + 1 = t := ⟨_, rfl⟩
  have HT : Hid (n + 1 = t) := ht
  rw [ht] at HR ⊢
  clear hS hr hst ht
  obtain ⟨cw, ch, cl, cd, cr, ci, cb, we, ca⟩ := c
  simp only [cfv, cfc] at *
  go_enter Tryd.func22, Tryd.ntmps22
  go_wp2_with fail
  go_loopw [6, 7] (fun v x wr => ∃ k m : Nat, k ≤ n ∧ k + 1 = m ∧ x = .int .i64 m ∧ Own 3 wr (w.heap.size + 1) v (vi (wyK g k)) ∧ At w ⟨cw, ch, cl, cd, cr, ci, cb, we, ca⟩ wr) (fun _ x _ => 2000 - (RowKit.intOf x).toNat)
  case atStart => exact ⟨0, 1, Nat.zero_le _, rfl, rfl, by rw [wyK_zero]; exact Own.nil _ _ _, A0.out⟩
  case round =>
    obtain ⟨k, m, hk, hm, rfl, own, hat⟩ := hrel
    have HAT : Hid (At w ⟨cw, ch, cl, cd, cr, ci, cb, we, ca⟩ wr) := hat
    have HOWN : Hid (Own 3 wr (w.heap.size + 1) _ (vi (wyK g k))) := own
    have HM : Hid (k + 1 = m) := hm
    clear own hat hm
    by_cases hlt : k < n
    · have h1 : (m : Int) < (t : Int) := by have := HM.out; have := HT.out; omega
      have em : IntKind.i64.wrap ((m : Int) - 1) = (k : Int) := by have := HM.out; rw [IntWalk.i64_in _ (by omega)]; omega
      have h2 : (k : Int) < (t : Int) := by have := HT.out; omega
      have h3 : (0 : Int) ≤ k := by omega
      have h4 : (0 : Int) ≤ m := by omega
      have h7 : m ≤ 1001 := by have := HM.out; omega
      have h5 : k < t := by have := HT.out; omega
      have h6 : m < t := by omega
      obtain ⟨g0, o, rfl, hg, c1, c2⟩ := HR.out.two h5 h6
      have K3 := fun (p : Gw wr) => LE k hlt p.v ((HAT.out.steps HS.out).next p.le)
      rw [HM.out] at K3
      have hgr : g0 < wr.heap.size := Nat.lt_of_lt_of_le hg HAT.out.below.size
      have q9 : ∀ p : Gw wr, p.v.cell? ⟨g0, o + k, none⟩ = some (.int .i64 (f k)) := fun p => p.cell hgr ((HAT.out.below.cell (p := ⟨g0, o + k, none⟩) hg).trans c1)
      have q10 : ∀ p : Gw wr, p.v.cell? ⟨g0, o + m, none⟩ = some (.int .i64 (f m)) := fun p => p.cell hgr ((HAT.out.below.cell (p := ⟨g0, o + m, none⟩) hg).trans c2)
      have hvs : Hid (vi (wyK g k) ++ [.int .i64 (g k)] = vi (wyK g (k + 1))) := by unfold Hid; rw [← wyK_succ, vi_snoc]
      have hll : Hid ((vi (wyK g k)).length ≤ 1000000) := by unfold Hid; rw [vi_len, wyK_len]; omega
      clear LE c1 c2 hgr hg
      generalize f k = x at *
      generalize f m = y at *
      generalize g k = z at *
      obtain ⟨q0, q1, q2, q3, q4, q5, q6, q7, q8⟩ := HAT.out.gw
      simp only at q0 q1 q2 q3 q4 q5 q6 q7 q8
      go_wp2_with fail
      refine region_gw (by kernel_rfl) (by kernel_rfl) ?_
      repeat (first | go_big_quiet_skip | quiet_step ((go_at_call 35; exact quiet_below (K3 _))))
      refine wpQuiet_nil ?_
      intro u4 hw'
      obtain ⟨⟨u5, hb4⟩, hw''⟩ := hw'
      obtain rfl : u4 = u5 := hw''
      have HAT3 : Hid (At w ⟨cw, ch, cl, cd, cr, ci, cb, we, ca⟩ u4) := HAT.out.trans hb4
      have own : Own 3 u4 (w.heap.size + 1) _ (vi (wyK g k)) := HOWN.out.below hb4
      have hsa : w.heap.size + 1 ≤ u4.heap.size := HAT3.out.size
      clear hb4 K3 q0 q1 q2 q3 q4 q5 q6 q7 q8 q9 q10 HAT HOWN
      go_wp2_with (at_builtin; refine wpList_app_one rfl (.tmp 32) (.tmp 34) 22 3 i0 (.int .i64 0) 8 rfl Tryd.underlying22 ki hz0 hz1 hz2 rfl (by decide) (w.heap.size + 1) u4 _ _ (.int .i64 z) rfl own rfl rfl hll.out hsa ?_; intro v1' wb o1 kb; have ab : Hid (At w ⟨cw, ch, cl, cd, cr, ci, cb, we, ca⟩ wb) := At.of (kb.2.1 _ HAT3.out); clear kb own)
      rw [hvs.out] at o1
      go_roundw
      case rel => exact ⟨k + 1, m + 1, by omega, by rw [HM.out], by go_num, o1, ab.out⟩
      case measure => simp [RowKit.intOf]; omega
    · obtain rfl : k = n := by omega
      have h1 : ¬ (m : Int) < (t : Int) := by have := HM.out; have := HT.out; omega
      clear LE
      go_wp2
      go_ret2
      exact RowB.mk (HOWN.out.mono (by omega)) HAT.out.below

set_option maxRecDepth 100000 in
set_option maxHeartbeats 2000000 in
theorem channels_any (c : Cf) (f g : Nat → Int) (n : Nat) (s : Option Addr) (cap : Nat) (w : World) (hS : Steps w) (hn : n ≤ 1000) (hr : RdA w s (vi (wyK f (n + 1)))) (hst : ∀ k, k < n → bsN c (f k) (g k) = f (k + 1) ∧ bsB c (f k) (g k) = true) :
    Calls Tryd.prog 18 #[cfv c, .slice s (n + 1) cap] w (RowC w (chK f g n)) := by
  obtain ⟨i0, ki, hz0, hz1, hz2⟩ := info_parts Tryd.info30
  have A0 : Hid (At w c (w.alloc (.cells (cfc c) 29))) := At.start w c
  have HR : Hid (RdA w s (vi (wyK f (n + 1)))) := hr
  have K := wports_any c f g n s cap _ (A0.out.steps hS) hn (hr.below A0.out.below) hst
  obtain ⟨t, ht⟩ : ∃ t, n + 1 = t := ⟨_, rfl⟩
  have HT : Hid (n + 1 = t) := ht
  rw [ht] at HR K ⊢
  clear hS hr hst ht
  obtain ⟨cw, ch, cl, cd, cr, ci, cb, we, ca⟩ := c
  simp only [cfv, cfc] at *
  go_enter Tryd.func18, Tryd.ntmps18
  go_wp2_with fail
  go_at_call 22
  refine K.mono ?_
  rintro e v1 ⟨vp, rfl, ownp, hb⟩
  have HA1 : Hid (At w ⟨cw, ch, cl, cd, cr, ci, cb, we, ca⟩ v1) := A0.out.trans hb
  obtain ⟨ap, capp, rfl, _, _, _⟩ := ownp.rd
  have HOP : Hid (Own 3 v1 (w.heap.size + 1) (.slice ap (vi (wyK g n)).length capp) (vi (wyK g n))) := ownp.mono (by simp)
  rw [vi_len, wyK_len] at HOP ⊢
  clear hb K A0 ownp
  go_wp2_with fail
  go_loopw [8, 19] (fun v x wr => ∃ k : Nat, k ≤ n ∧ x = .int .i64 k ∧ OwnP 30 wr (w.heap.size + 1) v (chK f g k) ∧ At w ⟨cw, ch, cl, cd, cr, ci, cb, we, ca⟩ wr ∧ Own 3 wr (w.heap.size + 1) (.slice ap n capp) (vi (wyK g n))) (fun _ x _ => n - (RowKit.intOf x).toNat)
  case atStart => exact ⟨0, Nat.zero_le _, rfl, OwnP.nil _ _ _, HA1.out, HOP.out⟩
  case round =>
    obtain ⟨k, hk, rfl, own, hat, op⟩ := hrel
    have HAT : Hid (At w ⟨cw, ch, cl, cd, cr, ci, cb, we, ca⟩ wr) := hat
    have HOP2 : Hid (Own 3 wr (w.heap.size + 1) (.slice ap n capp) (vi (wyK g n))) := op
    have hsz : w.heap.size + 1 ≤ wr.heap.size := hat.size
    by_cases hlt : k < n
    · have h1 : (k : Int) < (n : Int) := by omega
      have h2 : (k : Int) < (t : Int) := by have := HT.out; omega
      have h3 : (0 : Int) ≤ k := by omega
      obtain ⟨g0, o, rfl, hg, c1⟩ := HR.out.at (i := k) (by have := HT.out; omega)
      have x1 : wr.cell? ⟨g0, o + k, none⟩ = some (.int .i64 (f k)) := (hat.below.cell (p := ⟨g0, o + k, none⟩) hg).trans c1
      obtain ⟨ap', cap', e1, _, _, rd⟩ := op.rd
      simp only [Value.slice.injEq] at e1
      obtain ⟨rfl, ez, rfl⟩ := e1
      clear ez
      have hv := vi_at (l := wyK g n) (k := k) (by rw [wyK_len]; exact hlt)
      rw [wyK_at g hlt] at hv
      obtain ⟨g1, rfl, _, x2⟩ := rd k _ hv
      have hsn : Hid (chK f g k ++ [(f k, g k)] = chK f g (k + 1)) := chK_succ f g k
      have hll : Hid ((chK f g k).length ≤ 1000000) := by unfold Hid; rw [chK_len]; omega
      clear hat op hv rd c1 hg HR HOP HA1
      generalize f k = x at *
      generalize g k = z at *
      go_wp2_with (at_builtin; refine wpList_app_pair rfl (.tmp 24) (.tmp 31) 34 30 i0 (.agg #[.int .i64 0, .int .i64 0]) 16 rfl Tryd.underlying34 ki hz0 hz1 hz2 rfl (by decide) (w.heap.size + 1) wr _ _ x z rfl own rfl hll.out hsz ?_; intro v1' wb o1 kb; have ab : Hid (At w ⟨cw, ch, cl, cd, cr, ci, cb, we, ca⟩ wb) := At.of (kb.2.1 _ HAT.out); have ob := kb.2.2.1 3 _ _ (by decide) HOP2.out; clear kb own)
      rw [hsn.out] at o1
      go_roundw
      case rel => exact ⟨k + 1, by omega, by go_num, o1, ab.out, ob⟩
      case measure => simp [RowKit.intOf]; omega
    · obtain rfl : k = n := by omega
      have h1 : ¬ (k : Int) < (k : Int) := by omega
      have HO : Hid (OwnP 30 wr (w.heap.size + 1) _ (chK f g k)) := own
      clear own hat op HR
      go_wp2
      go_ret2
      exact RowC.mk (HO.out.mono (by omega)) HAT.out.below
end Go.Proofs.YtaohimmmhpmgdaaDoor
