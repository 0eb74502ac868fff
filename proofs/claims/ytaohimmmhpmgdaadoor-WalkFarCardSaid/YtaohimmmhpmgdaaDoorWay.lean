/-
  The walk of Way.
-/
import Derived.Test.YtaohimmmhpmgdaaDoorLead
import Derived.Test.YtaohimmmhpmgdaaDoorChoose
import Derived.Test.YtaohimmmhpmgdaaDoorGw
namespace Go.Proofs.YtaohimmmhpmgdaaDoor
open Go.RowKit

/-- The config's nine cells, in each of the worlds of a class. -/
theorem At.gw {w u : World} {c : Cf} (h : At w c u) : (∀ p : Gw u, p.v.cell? ⟨w.heap.size, 0, none⟩ = some (.int .i64 c.w)) ∧ (∀ p : Gw u, p.v.cell? ⟨w.heap.size, 1, none⟩ = some (.int .i64 c.h)) ∧ (∀ p : Gw u, p.v.cell? ⟨w.heap.size, 2, none⟩ = some (.int .i64 c.l)) ∧
    (∀ p : Gw u, p.v.cell? ⟨w.heap.size, 3, none⟩ = some (.int .i64 c.d)) ∧ (∀ p : Gw u, p.v.cell? ⟨w.heap.size, 4, none⟩ = some (.int .i64 c.r)) ∧ (∀ p : Gw u, p.v.cell? ⟨w.heap.size, 5, none⟩ = some (.int .i64 c.i)) ∧
    (∀ p : Gw u, p.v.cell? ⟨w.heap.size, 6, none⟩ = some (.int .i64 c.b)) ∧ (∀ p : Gw u, p.v.cell? ⟨w.heap.size, 7, none⟩ = some (.bool c.we)) ∧ (∀ p : Gw u, p.v.cell? ⟨w.heap.size, 8, none⟩ = some (.bool c.ca)) := by
  obtain ⟨x0, x1, x2, x3, x4, x5, x6, x7, x8⟩ := h.cells
  have hl : w.heap.size < u.heap.size := by have := h.size; omega
  exact ⟨fun p => p.cell hl x0, fun p => p.cell hl x1, fun p => p.cell hl x2, fun p => p.cell hl x3, fun p => p.cell hl x4, fun p => p.cell hl x5, fun p => p.cell hl x6, fun p => p.cell hl x7, fun p => p.cell hl x8⟩

/-- A way step by step. -/
theorem way_inv {c : Cf} {a b : Int} (ha : isN c a = true) (hb : isN c b = true) (cs : List Int) : ∃ (far : Nat) (N P : Nat → Int) (Q : Nat → Bool), way c a b cs = wyK N (far + 1) ∧ far ≤ 126 ∧ N 0 = a ∧ N far = b ∧
    (∀ k, k < far → N k ≠ b) ∧ (∀ k, chP (opt c (N k) b) (cs.getD k 0) = P k ∧ chB (opt c (N k) b) = Q k) ∧ (∀ k, k < far → bsN c (N k) (P k) = N (k + 1) ∧ bsB c (N k) (P k) = true) := by
  refine ⟨(fr c a b).toNat, nd c b cs a, pt c b cs a, fun k => chB (opt c (nd c b cs a k) b), way_yes ha hb cs, by have := fr_in c a b; omega, rfl, nd_end ha hb cs, fun k hk => ?_, fun k => ⟨rfl, rfl⟩, fun k hk => ?_⟩
  · obtain ⟨_, _, _, h⟩ := nd_inv ha hb cs k (by omega)
    exact (h hk).1
  · obtain ⟨_, _, _, h⟩ := nd_inv ha hb cs k (by omega)
    obtain ⟨_, _, _, h4, h5⟩ := h hk
    exact ⟨h5, h4⟩
/-- A slice's length. -/
def lenV : Value → Nat
  | .slice _ n _ => n
  | _ => 0
theorem getD_inI {cs : List Int} (hi : ∀ n ∈ cs, inI n) (k : Nat) : inI (cs.getD k 0) := by
  by_cases h : k < cs.length
  · exact hi _ (getD_mem h)
  · rw [List.getD_eq_getElem?_getD, List.getElem?_eq_none (by omega)]
    unfold inI
    simp

set_option maxRecDepth 100000 in
set_option maxHeartbeats 2000000 in
theorem way_any (c : Cf) (a b : Int) (s : Option Addr) (cs : List Int) (cap : Nat) (w : World) (hS : Steps w) (hT : Tabs w) (hr : RdA w s (vi cs)) (hi : ∀ n ∈ cs, inI n) :
    Calls Tryd.prog 16 #[cfv c, .int .i64 a, .int .i64 b, .slice s cs.length cap] w (Row w (way c a b cs)) := by
  obtain ⟨i0, ki, hz0, hz1, hz2⟩ := info_parts Tryd.info3
  have A0 : Hid (At w c (w.alloc (.cells (cfc c) 29))) := At.start w c
  have HS : Hid (Steps w) := hS
  have HT : Hid (Tabs w) := hT
  have HR : Hid (RdA w s (vi cs)) := hr
  have K1 := is_any c a
  have K2 := is_any c b
  clear hS hT hr
  cases ha : isN c a with
  | false =>
    rw [way_no (by rw [ha]; rfl) cs]
    rw [ha] at K1
    clear K2 ha hi
    generalize cs.length = n at *
    obtain ⟨cw, ch, cl, cd, cr, ci, cb, we, ca⟩ := c
    simp only [cfv, cfc] at *
    go_enter Tryd.func16, Tryd.ntmps16
    go_wp2_with fail
    go_at_call 29
    refine (K1 _).mono ?_
    rintro e v1 ⟨rfl, hb⟩
    have HA1 : Hid (At w _ v1) := A0.out.trans hb
    clear hb K1
    go_wp2
    go_ret
    exact Row.mk (Own.nil _ _ _) HA1.out.below
  | true =>
  rw [ha] at K1
  cases hb0 : isN c b with
  | false =>
    rw [way_no (by rw [ha, hb0]; rfl) cs]
    rw [hb0] at K2
    clear ha hb0 hi
    generalize cs.length = n at *
    obtain ⟨cw, ch, cl, cd, cr, ci, cb, we, ca⟩ := c
    simp only [cfv, cfc] at *
    go_enter Tryd.func16, Tryd.ntmps16
    go_wp2_with fail
    go_at_call 29
    refine (K1 _).mono ?_
    rintro e v1 ⟨rfl, hb⟩
    have HA1 : Hid (At w _ v1) := A0.out.trans hb
    clear hb K1
    obtain ⟨x0, x1, x2, x3, x4, x5, x6, x7, x8⟩ := HA1.out.cells
    simp only at x0 x1 x2 x3 x4 x5 x6 x7 x8
    go_wp2_with fail
    go_at_call 29
    refine (K2 _).mono ?_
    rintro e v2 ⟨rfl, hb⟩
    have HA2 : Hid (At w _ v2) := HA1.out.trans hb
    clear hb K2 HA1 x0 x1 x2 x3 x4 x5 x6 x7 x8
    go_wp2
    go_ret
    exact Row.mk (Own.nil _ _ _) HA2.out.below
  | true =>
  rw [hb0] at K2
  obtain ⟨far, N, P, Q, I1, I2, I3, I4, I5, I6, I7⟩ := way_inv ha hb0 cs
  rw [I1]
  have CH := fun k v h => choose_any c (N k) b (cs.getD k 0) (getD_inI hi k).1 (getD_inI hi k).2 v h
  have CA : ∀ (k : Nat) v, RdA v s (vi cs) → Calls Tryd.prog 31 #[.int .i64 k, .slice s cs.length cap] v fun e w' => e = .returned (.int .i64 (cs.getD k 0)) ∧ Below v.heap.size v w' :=
    fun k v h => (choiceAt_any k s cs cap v h).mono fun _ _ ⟨h1, h2⟩ => ⟨h1, by rw [← h2]; exact Below.refl _ _⟩
  have BE := fun k v h => beside_any c (N k) (P k) v h
  simp only [I6] at CH
  have HI4 : Hid (N far = b) := I4
  have HI3 : Hid (N 0 = a) := I3
  have HI5 : Hid (∀ k, k < far → N k ≠ b) := I5
  have HI7 : Hid (∀ k, k < far → bsN c (N k) (P k) = N (k + 1) ∧ bsB c (N k) (P k) = true) := I7
  clear I1 I3 I4 I5 I6 I7 ha hb0 hi
  obtain ⟨cN, hcN⟩ : ∃ cN : Nat → Int, ∀ k, cs.getD k 0 = cN k := ⟨fun k => cs.getD k 0, fun _ => rfl⟩
  simp only [hcN] at CH CA
  clear hcN
  generalize cs.length = n at *
  generalize bsN c = BN at *
  generalize bsB c = BB at *
  obtain ⟨cw, ch, cl, cd, cr, ci, cb, we, ca⟩ := c
  simp only [cfv, cfc] at *
  go_enter Tryd.func16, Tryd.ntmps16
  go_wp2_with fail
  go_at_call 29
  refine (K1 _).mono ?_
  rintro e v1 ⟨rfl, hb⟩
  have HA1 : Hid (At w _ v1) := A0.out.trans hb
  clear hb K1
  obtain ⟨x0, x1, x2, x3, x4, x5, x6, x7, x8⟩ := HA1.out.cells
  simp only at x0 x1 x2 x3 x4 x5 x6 x7 x8
  go_wp2_with fail
  go_at_call 29
  refine (K2 _).mono ?_
  rintro e v2 ⟨rfl, hb⟩
  have HA2 : Hid (At w ⟨cw, ch, cl, cd, cr, ci, cb, we, ca⟩ v2) := HA1.out.trans hb
  clear hb K2 HA1 x0 x1 x2 x3 x4 x5 x6 x7 x8
  have o0 : Hid (Own 3 (v2.alloc (.cells #[.int .i64 a] 3)) (w.heap.size + 1) (.slice (some ⟨v2.heap.size, 0, none⟩) 1 1) (vi [a])) := Own.lit (e := 3) (w := v2) (B := w.heap.size + 1) #[.int .i64 a] HA2.out.size (by simp)
  have hA2 : Hid (At w ⟨cw, ch, cl, cd, cr, ci, cb, we, ca⟩ (v2.alloc (.cells #[.int .i64 a] 3))) := HA2.out.alloc _
  clear HA2
  go_wp2_with fail
  go_loopw [9, 10] (fun v x wr => ∃ k : Nat, k ≤ far ∧ x = .int .i64 (N k) ∧ Own 3 wr (w.heap.size + 1) v (vi (wyK N (k + 1))) ∧ At w ⟨cw, ch, cl, cd, cr, ci, cb, we, ca⟩ wr) (fun v _ _ => 1000 - lenV v)
  case atStart => exact ⟨0, Nat.zero_le _, by rw [HI3.out], by rw [wyK_one, HI3.out]; exact o0.out, hA2.out⟩
  case round =>
    obtain ⟨k, hk, rfl, own, hat⟩ := hrel
    have HAT : Hid (At w ⟨cw, ch, cl, cd, cr, ci, cb, we, ca⟩ wr) := hat
    obtain ⟨al, cal, rfl, _, _, _⟩ := own.rd
    simp only [vi_len, wyK_len] at own
    simp only [vi_len, wyK_len]
    generalize hm : k + 1 = m at own ⊢
    have HOWN : Hid (Own 3 wr (w.heap.size + 1) (.slice al m cal) (vi (wyK N m))) := own
    have em : IntKind.i64.wrap ((m : Int) - 1) = (k : Int) := by rw [IntWalk.i64_in _ (by omega)]; omega
    have HM : Hid (k + 1 = m) := hm
    clear own hat o0 hA2 hm
    by_cases hlt : k < far
    · have hne := HI5.out k hlt
      have he : (N k != b) = true := by simpa using hne
      obtain ⟨e1, e2⟩ := HI7.out k hlt
      have K3 := fun (p : Gw wr) => CA k p.v (HR.out.below (HAT.out.below.trans (p.le.mono (by have := HAT.out.size; omega))))
      have K4 := fun (p : Gw wr) => CH k p.v ((HAT.out.tabs HT.out).next p.le)
      have K5 := BE k
      rw [e1, e2, HM.out] at K5
      clear CA CH BE e1 e2 hne
      generalize hx : N k = x at *
      generalize cN k = z at *
      generalize P k = p at *
      generalize Q k = q at *
      clear hx
      have hvs : Hid (vi (wyK N m) ++ [.int .i64 (N m)] = vi (wyK N (m + 1))) := by unfold Hid; rw [← wyK_succ, vi_snoc]
      have hll : Hid ((vi (wyK N m)).length ≤ 1000000) := by unfold Hid; rw [vi_len, wyK_len]; have := HM.out; omega
      generalize hy : N m = y at *
      have HY : Hid (N m = y) := hy
      clear hy
      obtain ⟨q0, q1, q2, q3, q4, q5, q6, q7, q8⟩ := HAT.out.gw
      simp only at q0 q1 q2 q3 q4 q5 q6 q7 q8
      go_wp2_with fail
      refine region_gw (by kernel_rfl) (by kernel_rfl) ?_
      repeat (first | go_big_quiet_skip | quiet_step ((go_at_call 31; exact quiet_below (K3 _))) | quiet_step ((go_at_call 30; exact quiet_below (K4 _))))
      refine wpQuiet_nil ?_
      intro u4 hw'
      obtain ⟨⟨u5, hb4⟩, hw''⟩ := hw'
      obtain rfl : u4 = u5 := hw''
      have HAT3 : Hid (At w ⟨cw, ch, cl, cd, cr, ci, cb, we, ca⟩ u4) := HAT.out.trans hb4
      have HOWN3 : Hid (Own 3 u4 (w.heap.size + 1) (.slice al m cal) (vi (wyK N m))) := HOWN.out.below hb4
      clear hb4 K3 K4 q0 q1 q2 q3 q4 q5 q6 q7 q8 HAT HOWN
      obtain ⟨x0, x1, x2, x3, x4, x5, x6, x7, x8⟩ := HAT3.out.cells
      simp only at x0 x1 x2 x3 x4 x5 x6 x7 x8
      go_wp2_with fail
      go_at_call 23
      refine (K5 _ (HAT3.out.steps HS.out)).mono ?_
      rintro e vb ⟨rfl, hb⟩
      have HAT4 : Hid (At w ⟨cw, ch, cl, cd, cr, ci, cb, we, ca⟩ vb) := HAT3.out.trans hb
      have own : Own 3 vb (w.heap.size + 1) (.slice al m cal) (vi (wyK N m)) := HOWN3.out.below hb
      have hsa : w.heap.size + 1 ≤ vb.heap.size := HAT4.out.size
      clear hb K5 HAT3 HOWN3 x0 x1 x2 x3 x4 x5 x6 x7 x8
      go_wp2_with (at_builtin; refine wpList_app_one rfl (.tmp 48) (.tmp 50) 22 3 i0 (.int .i64 0) 8 rfl Tryd.underlying22 ki hz0 hz1 hz2 rfl (by decide) (w.heap.size + 1) vb _ _ (.int .i64 y) rfl own rfl rfl hll.out hsa ?_; intro v1' wb o1 kb; have ab : Hid (At w ⟨cw, ch, cl, cd, cr, ci, cb, we, ca⟩ wb) := At.of (kb.2.1 _ HAT4.out); clear kb own)
      rw [hvs.out] at o1
      obtain ⟨al', cal', rfl, _, _, _⟩ := o1.rd
      simp only [vi_len, wyK_len] at o1 ⊢
      go_roundw
      case rel => exact ⟨k + 1, by omega, by rw [HM.out, HY.out], by rw [HM.out]; simpa [vi_len, wyK_len] using o1, ab.out⟩
      case measure => have := HM.out; simp only [lenV]; omega
    · obtain rfl : k = far := by omega
      have he : (N k != b) = false := by rw [HI4.out]; simp
      clear CA CH BE em
      go_wp2
      go_ret
      exact Row.mk (by rw [HM.out]; have := HOWN.out.mono (show w.heap.size ≤ w.heap.size + 1 by omega); exact this) HAT.out.below
end Go.Proofs.YtaohimmmhpmgdaaDoor
