/-
  The walk of SnakeSets. (Written by gen_setsw.py.)
-/
import Derived.Test.YtcebfkkpclnmoaaDoorPlansW
import Derived.Test.YtcebfkkpclnmoaaDoorRset
import Derived.Test.YtcebfkkpclnmoaaDoorSetsM
import Derived.Deep.RegionHeld3
namespace Go.Proofs.YtcebfkkpclnmoaaDoor
open Go.RowKit

set_option maxRecDepth 100000 in
set_option maxHeartbeats 4000000 in
theorem snakeSets_any (c : Cf) (a : Int) (s : Option Addr) (ls : List Int) (cap : Nat) (w : World) (hlm : ls.length ≤ maxLen) (hr : RdA w s (vi ls)) (hS : Steps w) : Calls Tryd.prog 7 #[cfv c, .int .i64 a, .slice s ls.length cap] w fun e w' => e = .returned (.bool true) ∧ Below w.heap.size w w' := by
  have T0 : Hid (W1 w c (w.alloc (.cells (cfc c) 23))) := W1.start _ _
  have LV := lives_any _ (T0.out.steps hS)
  have SM := fun v => small_form c v
  have HS : Hid (Steps w) := hS
  have HRS : Hid (RdA w s (vi ls)) := hr
  have ST := fun c hc m hm v h => rset_any c hc s ls cap m v hm hlm h
  clear hS hr hlm
  have HTL : Hid ((ls.take 10).length ≤ 10) := by show (ls.take 10).length ≤ 10; rw [List.length_take]; omega
  generalize ls.length = nl at *
  obtain ⟨cw, ch, cl, cd, cr, ci, cb, we, ca⟩ := c
  simp only [cfv, cfc] at *
  go_enter Tryd.func7, Tryd.ntmps7
  go_wp2_with fail
  go_at_call 10
  refine LV.mono ?_
  rintro e v1 ⟨rfl, hb⟩
  have T1 : Hid (W1 w ⟨cw, ch, cl, cd, cr, ci, cb, we, ca⟩ v1) := T0.out.next hb
  clear hb LV T0
  go_upto_region 3 with fail
  go_cut [] from 20 to 21 (fun wc => ∃ c', W1 w c' wc ∧ Fits c')
  case first =>
    obtain ⟨x0, x1, x2, x3, x4, x5, x6, x7, x8⟩ := T1.out.cells
    simp only at x0 x1 x2 x3 x4 x5 x6 x7 x8
    go_wp2_with fail
    go_at_call 24
    refine (SM _).mono ?_
    rintro e v2 ⟨dw, dh, dl, dd, dr, di, db, de, da, rfl, hb, f, f1, f2⟩
    have T2 : Hid (W1 w _ v2) := T1.out.next hb
    have HF : Hid (Fits ⟨dw, dh, dl, dd, dr, di, db, de, da⟩) := f
    clear x0 x1 x2 x3 x4 x5 x6 x7 x8 hb SM f f1 f2
    obtain ⟨x0, x1, x2, x3, x4, x5, x6, x7, x8⟩ := T2.out.cells
    simp only at x0 x1 x2 x3 x4 x5 x6 x7 x8
    obtain ⟨g0, g1, g2, g3, g4, g5, g6, g7, g8⟩ := T2.out.free
    go_wp2_with fail
    go_meet
    exact ⟨⟨dw, dh, dl, dd, dr, di, db, de, da⟩, T2.out.all ⟨dw, dh, dl, dd, dr, di, db, de, da⟩, HF.out⟩
  case rest =>
  obtain ⟨c', h2, f⟩ := hcut
  obtain ⟨v2, rfl⟩ : ∃ v2 : World, v2 = wc := ⟨_, rfl⟩
  have T2 : Hid (W1 w c' v2) := h2
  clear h2 T1 SM
  have hc := chk_fits f
  have I1 := nde_in hc a
  have N1 := node_any c' hc a
  have ST := fun v h => ST c' hc 10 (by decide) v h
  have hTN := setN_is hc (ls.take 10)
  have hTD := setN_nodup c' (ls.take 10)
  have hTL : (setN c' (ls.take 10)).length ≤ 10 := Nat.le_trans (setN_len c' _) HTL.out
  generalize setN c' (ls.take 10) = T at *
  by_cases h0 : T = []
  · subst h0
    clear hTN hTD hc f I1
    generalize nde c' a = A at *
    obtain ⟨cw', ch', cl', cd', cr', ci', cb', we', ca'⟩ := c'
    simp only [cfv, cfc] at *
    obtain ⟨x0, x1, x2, x3, x4, x5, x6, x7, x8⟩ := T2.out.cells
    simp only at x0 x1 x2 x3 x4 x5 x6 x7 x8
    go_wp2_with fail
    go_at_call 25
    refine (N1 _).mono ?_
    rintro e v3 ⟨rfl, hb⟩
    have T3 : Hid (W1 w ⟨cw', ch', cl', cd', cr', ci', cb', we', ca'⟩ v3) := T2.out.next hb
    clear hb N1 T2 x0 x1 x2 x3 x4 x5 x6 x7 x8 
    obtain ⟨x0, x1, x2, x3, x4, x5, x6, x7, x8⟩ := T3.out.cells
    simp only at x0 x1 x2 x3 x4 x5 x6 x7 x8
    go_wp2_with fail
    go_at_call 27
    refine (ST _ (HRS.out.below T3.out.below)).mono ?_
    rintro e v4 h4
    obtain ⟨al, xl, rfl, _, _, _, hb⟩ := h4.rd
    have HB : Hid (Below w.heap.size w v4) := (T3.out.next hb).below
    clear hb h4 ST T3 x0 x1 x2 x3 x4 x5 x6 x7 x8 HRS
    rw [List.length_nil]
    go_wp2
    go_ret
    exact ⟨rfl, HB.out⟩
  · obtain ⟨p1, p2, p3, p4, p5⟩ := sets_facts I1 hTN hTD h0
    obtain ⟨R, hR⟩ : ∃ R : Nat → List Int, R = row3 (plG c' (nde c' a) T) (plL c' (nde c' a) T) (plS c' (nde c' a) T) := ⟨_, rfl⟩
    have R0 : plG c' (nde c' a) T = R 0 := by rw [hR]; rfl
    have R1 : plL c' (nde c' a) T = R 1 := by rw [hR]; rfl
    have R2 : plS c' (nde c' a) T = R 2 := by rw [hR]; rfl
    rw [← hR] at p4 p5
    rw [R0, R1, R2] at p2
    rw [R2] at p3
    have P1 : ∀ v al xl, RdA v al (vi T) → Calls Tryd.prog 18 #[cfv c', .int .i64 (nde c' a), .slice al T.length xl] v (fun e v' => ∃ (PA : Nat → Option Addr) (PC : Nat → Nat), e = .returned (.tuple #[.agg #[.slice (PA 0) (R 0).length (PC 0), .slice (PA 1) (R 1).length (PC 1), .slice (PA 2) (R 2).length (PC 2)], .int .i64 0]) ∧ (∀ k, k < 3 → Rd v' (PA k) (vi (R k))) ∧ Below v.heap.size v v') := fun v al xl h =>
      (plan_any c' (nde c' a) al T xl v (by omega) h).mono fun e v' h => by
        obtain ⟨a1, a2, a3, m1, m2, m3, e1, oa, ob, oc, hb⟩ := h.rd
        rw [p1] at e1
        have q := R3i.mk' oa ob oc
        rw [R0] at e1 q
        rw [R1] at e1 q
        rw [R2] at e1 q
        refine ⟨row3 a1 a2 a3, row3 m1 m2 m3, e1, ?_, hb⟩
        intro k hk
        match k, hk with
        | 0, _ => exact q.g
        | 1, _ => exact q.l
        | 2, _ => exact q.s
        | k + 3, h => omega
    have hRl : ∀ k, k < 3 → (R k).length ≤ 10 := fun k hk => by
      match k, hk with
      | 0, _ => omega
      | 1, _ => omega
      | 2, _ => omega
      | k + 3, h => omega
    have WY : ∀ (k : Nat) v al xl, k < 3 → Steps v → RdA v al (vi (R k)) → Calls Tryd.prog 22 #[cfv c', .int .i64 (nde c' a), .slice al (R k).length xl] v (Row v (wys c' (nde c' a) (R k))) := fun k v al xl hk hS h => way_any c' (nde c' a) al (R k) xl v hS (by have := hRl k hk; omega) h
    have hWl : ∀ k, k < 3 → (wys c' (nde c' a) (R k)).length ≤ 100000 := fun k hk => by
      have h1 := wys_len c' (nde c' a) (R k)
      have h2 := hRl k hk
      have h3 : (R k).length * 4096 ≤ 10 * 4096 := Nat.mul_le_mul_right _ h2
      omega
    have hn0 : 1 ≤ T.length := by
      cases T with
      | nil => exact absurd rfl h0
      | cons x T => simp
    clear hc f I1 hTN hTD h0 p1 R0 R1 R2 hR
    generalize nde c' a = A at *
    obtain ⟨W, hW⟩ : ∃ W : Nat → List Int, ∀ k, wys c' A (R k) = W k := ⟨fun k => wys c' A (R k), fun _ => rfl⟩
    simp only [hW] at p4 WY hWl
    clear hW
    obtain ⟨NR, hNR⟩ : ∃ NR : Nat → Nat, ∀ k, (R k).length = NR k := ⟨fun k => (R k).length, fun _ => rfl⟩
    obtain ⟨NW, hNW⟩ : ∃ NW : Nat → Nat, ∀ k, (W k).length = NW k := ⟨fun k => (W k).length, fun _ => rfl⟩
    have HNR : Hid (∀ k, (R k).length = NR k) := hNR
    have HNW : Hid (∀ k, (W k).length = NW k) := hNW
    obtain ⟨n, hn⟩ : ∃ n, T.length = n := ⟨_, rfl⟩
    have HN : Hid (T.length = n) := hn
    rw [hn] at P1 hn0 hTL p2
    simp only [hNR] at P1 hRl WY p2 p3
    simp only [hNW] at hWl
    have HRl : Hid (∀ k, k < 3 → NR k ≤ 10) := hRl
    have HWl : Hid (∀ k, k < 3 → NW k ≤ 100000) := hWl
    have HWY : Hid (∀ (k : Nat) v al xl, k < 3 → Steps v → RdA v al (vi (R k)) → Calls Tryd.prog 22 #[cfv c', .int .i64 A, .slice al (NR k) xl] v (Row v (W k))) := WY
    have HP4 : Hid (∀ k, k < 2 → W k ≠ [] ∧ (W k).getD 0 0 = A ∧ atS (R k) (W k) (W k).length = (R k).length ∧ ∀ j i, j < i → i < (W k).length → (W k).getD j 0 ≠ (W k).getD i 0) := p4
    have HP5 : Hid (∀ x ∈ T, cnt3 x R 3 0 = 1) := p5
    have hnz : ((n : Int) == 0) = false := by simp; omega
    have q0 := hRl 0 (by decide)
    have q1 := hRl 1 (by decide)
    have q2 := hRl 2 (by decide)
    have es0 : IntKind.i64.wrap ((NR 0 : Int) + (NR 1 : Int)) = (NR 0 : Int) + (NR 1 : Int) := IntWalk.i64_in _ (by omega)
    have es1 : IntKind.i64.wrap ((NR 0 : Int) + (NR 1 : Int) + (NR 2 : Int)) = (n : Int) := by rw [IntWalk.i64_in _ (by omega)]; omega
    have hnn : ((n : Int) != (n : Int)) = false := by simp
    have hg2 : ¬ (NR 2 : Int) > 1 := by omega
    clear hn WY hWl hRl p4 p5 hNR hNW p2 p3 q0 q1 q2
    obtain ⟨cw', ch', cl', cd', cr', ci', cb', we', ca'⟩ := c'
    simp only [cfv, cfc] at *
    obtain ⟨x0, x1, x2, x3, x4, x5, x6, x7, x8⟩ := T2.out.cells
    simp only at x0 x1 x2 x3 x4 x5 x6 x7 x8
    go_wp2_with fail
    go_at_call 25
    refine (N1 _).mono ?_
    rintro e v3 ⟨rfl, hb⟩
    have T3 : Hid (W1 w ⟨cw', ch', cl', cd', cr', ci', cb', we', ca'⟩ v3) := T2.out.next hb
    clear hb N1 T2 x0 x1 x2 x3 x4 x5 x6 x7 x8 
    obtain ⟨x0, x1, x2, x3, x4, x5, x6, x7, x8⟩ := T3.out.cells
    simp only at x0 x1 x2 x3 x4 x5 x6 x7 x8
    go_wp2_with fail
    go_at_call 27
    refine (ST _ (HRS.out.below T3.out.below)).mono ?_
    rintro e v4 h4
    obtain ⟨al, xl, rfl, _, rl, _, hb⟩ := h4.rd
    have T4 : Hid (W1 w ⟨cw', ch', cl', cd', cr', ci', cb', we', ca'⟩ v4) := T3.out.next hb
    have RT4 : Hid (Rd v4 al (vi T)) := rl
    rw [HN.out]
    clear hb h4 rl ST T3 x0 x1 x2 x3 x4 x5 x6 x7 x8 HRS
    obtain ⟨x0, x1, x2, x3, x4, x5, x6, x7, x8⟩ := T4.out.cells
    simp only at x0 x1 x2 x3 x4 x5 x6 x7 x8
    go_wp2_with fail
    go_at_call 18
    refine (P1 _ _ _ (RdA.of RT4.out)).mono ?_
    rintro e v5 ⟨PA, PC, rfl, hrd, hb⟩
    have hb5 : Below v4.heap.size v4 (v5.alloc (.cells #[.slice (PA 0) (NR 0) (PC 0), .slice (PA 1) (NR 1) (PC 1), .slice (PA 2) (NR 2) (PC 2)] 33)) := nxt hb (below_new v5 _)
    have T5 : Hid (W1 w ⟨cw', ch', cl', cd', cr', ci', cb', we', ca'⟩ (v5.alloc (.cells #[.slice (PA 0) (NR 0) (PC 0), .slice (PA 1) (NR 1) (PC 1), .slice (PA 2) (NR 2) (PC 2)] 33))) := T4.out.next hb5
    have RT5 : Hid (Rd (v5.alloc (.cells #[.slice (PA 0) (NR 0) (PC 0), .slice (PA 1) (NR 1) (PC 1), .slice (PA 2) (NR 2) (PC 2)] 33)) al (vi T)) := RT4.out.below hb5
    have B5 : Hid (B3 (v5.alloc (.cells #[.slice (PA 0) (NR 0) (PC 0), .slice (PA 1) (NR 1) (PC 1), .slice (PA 2) (NR 2) (PC 2)] 33)) v5.heap.size (.slice (PA 0) (NR 0) (PC 0)) (.slice (PA 1) (NR 1) (PC 1)) (.slice (PA 2) (NR 2) (PC 2))) := B3.new v5 _ _ _
    have Q5 : Hid (∀ k, k < 3 → Rd (v5.alloc (.cells #[.slice (PA 0) (NR 0) (PC 0), .slice (PA 1) (NR 1) (PC 1), .slice (PA 2) (NR 2) (PC 2)] 33)) (PA k) (vi (R k))) := fun k hk => (hrd k hk).below (below_new v5 _)
    clear hb hb5 hrd P1 T4 RT4 x0 x1 x2 x3 x4 x5 x6 x7 x8
    go_upto_region 12 with fail
    generalize v5.alloc (.cells #[.slice (PA 0) (NR 0) (PC 0), .slice (PA 1) (NR 1) (PC 1), .slice (PA 2) (NR 2) (PC 2)] 33) = u5 at *
    have hq5 := lt_of_heap B5.out
    generalize v5.heap.size = q5 at *
    have C5 : Hid (∀ k, k < 3 → u5.cell? ⟨q5, k, none⟩ = some (.slice (PA k) (NR k) (PC k))) := fun k hk => by
      obtain ⟨y0, y1, y2⟩ := B5.out.cells
      match k, hk with
      | 0, _ => exact y0
      | 1, _ => exact y1
      | 2, _ => exact y2
      | k + 3, h => omega
    have hgen : Hid (∀ v, Below u5.heap.size u5 v → W1 w ⟨cw', ch', cl', cd', cr', ci', cb', we', ca'⟩ v ∧ Rd v al (vi T) ∧ (∀ k, k < 3 → v.cell? ⟨q5, k, none⟩ = some (.slice (PA k) (NR k) (PC k))) ∧ (∀ k, k < 3 → Rd v (PA k) (vi (R k)))) := fun v h =>
      ⟨T5.out.next h, RT5.out.below h, fun k hk => (h.cell (p := ⟨q5, k, none⟩) hq5).trans (C5.out k hk), fun k hk => (Q5.out k hk).below h⟩
    clear T5 RT5 B5 C5 Q5 es0 es1 hnn hg2 hnz
    go_wp2_with fail
    go_loopw [11] (fun x wr => ∃ k : Nat, k ≤ 2 ∧ x = .int .i64 k ∧ Below u5.heap.size u5 wr) (fun x _ => 2 - (RowKit.intOf x).toNat)
    case atStart => exact ⟨0, Nat.zero_le _, rfl, Below.refl _ _⟩
    case round =>
      obtain ⟨k, hk, rfl, hbr⟩ := hrel
      have HB : Hid (Below u5.heap.size u5 wr) := hbr
      obtain ⟨hT, hRT, hC, hQ⟩ := hgen.out wr hbr
      have T6 : Hid (W1 w ⟨cw', ch', cl', cd', cr', ci', cb', we', ca'⟩ wr) := hT
      have RT6 : Hid (Rd wr al (vi T)) := hRT
      have C6 : Hid (∀ k, k < 3 → wr.cell? ⟨q5, k, none⟩ = some (.slice (PA k) (NR k) (PC k))) := hC
      have Q6 : Hid (∀ k, k < 3 → Rd wr (PA k) (vi (R k))) := hQ
      clear hbr hT hRT hC hQ
      by_cases hlt : k < 2
      · have hltz : (k : Int) < 2 := by omega
        have hk0 : (0 : Int) ≤ k := by omega
        have hk3 : (k : Int) < 3 := by omega
        have ck := C6.out k (by omega)
        have K := fun v al xl hS h => HWY.out k v al xl (by omega) hS h
        obtain ⟨w1, w2, w3, w4⟩ := HP4.out k hlt
        have hnr := HRl.out k (by omega)
        have hnw := HWl.out k (by omega)
        have hqk := Q6.out k (by omega)
        have eR := HNR.out k
        have eW := HNW.out k
        rw [eR, eW] at w3
        rw [eW] at w4
        go_wp2_with fail
        have D1 := T6.out.drew
        have CD : wr.drew.cell? ⟨q5, k, none⟩ = some (.slice (PA k) (NR k) (PC k)) := ck
        have hq6 : q5 < wr.drew.heap.size := Nat.lt_of_lt_of_le hq5 HB.out.size
        have S1 := And.intro CD D1.cells
        have QD : Rd wr.drew (PA k) (vi (R k)) := hqk.below (below_drew _)
        have PD := D1.steps HS.out
        go_region_held3 (fun v => v.cell? ⟨q5, k, none⟩ = some (.slice (PA k) (NR k) (PC k)) ∧ v.cell? ⟨w.heap.size, 0, none⟩ = some (.int .i64 cw') ∧ v.cell? ⟨w.heap.size, 1, none⟩ = some (.int .i64 ch') ∧ v.cell? ⟨w.heap.size, 2, none⟩ = some (.int .i64 cl') ∧ v.cell? ⟨w.heap.size, 3, none⟩ = some (.int .i64 cd') ∧ v.cell? ⟨w.heap.size, 4, none⟩ = some (.int .i64 cr') ∧ v.cell? ⟨w.heap.size, 5, none⟩ = some (.int .i64 ci') ∧ v.cell? ⟨w.heap.size, 6, none⟩ = some (.int .i64 cb') ∧ v.cell? ⟨w.heap.size, 7, none⟩ = some (.bool we') ∧ v.cell? ⟨w.heap.size, 8, none⟩ = some (.bool ca'))
          (first | exact S2 | exact S1 | go_keep)
          ((go_at_call 22; (with_reducible refine (K _ _ _ PD (RdA.of QD)).mono ?_); rintro e u2 h2; obtain ⟨aw, xw, rfl, _, rw2, _, hbu⟩ := h2.rd; have D2 := D1.next hbu; have c2 := (hbu.cell (p := ⟨q5, k, none⟩) hq6).trans CD; have S2 := And.intro c2 D2.cells))
        have HB2 : Hid (Below u5.heap.size u5 u2) := (HB.out.drew).trans (hbu.mono (by have := HB.out.size; simpa using this))
        have RW : Hid (Rd u2 aw (vi (W k))) := rw2
        have RP : Hid (Rd u2 (PA k) (vi (R k))) := QD.below hbu
        have CP : Hid (u2.cell? ⟨q5, k, none⟩ = some (.slice (PA k) (NR k) (PC k))) := c2
        clear D1 CD S1 QD PD D2 c2 S2 hbu h2 rw2 hqk ck K T6 RT6 C6 Q6 HB HWY HP4 HP5 HRl HWl hgen hq6
        have HA0 : Hid (atS (R k) (W k) 0 = 0) := rfl
        have HAs : Hid (∀ i, atS (R k) (W k) i < NR k → (W k).getD i 0 = (R k).getD (atS (R k) (W k) i) 0 → atS (R k) (W k) (i + 1) = atS (R k) (W k) i + 1) := fun i h1 h2 => by
          show (if atS (R k) (W k) i < (R k).length ∧ _ then _ else _) = _
          rw [if_pos ⟨by rw [eR]; exact h1, h2⟩]
        have HAn : Hid (∀ i, (atS (R k) (W k) i < NR k → (W k).getD i 0 ≠ (R k).getD (atS (R k) (W k) i) 0) → atS (R k) (W k) (i + 1) = atS (R k) (W k) i) := fun i h => by
          show (if atS (R k) (W k) i < (R k).length ∧ _ then _ else _) = _
          rw [if_neg (fun e => h (by rw [← eR]; exact e.1) e.2)]
        have HAl : Hid (∀ i, i ≤ NW k → atS (R k) (W k) i ≤ NR k) := fun i hi => by
          have := (atS_rest (R k) (W k) i (by rw [eW]; exact hi)).1
          rw [eR] at this
          exact this
        have HAe : Hid (atS (R k) (W k) (NW k) = NR k) := w3
        have Hw4 : Hid (∀ j i, j < i → i < NW k → (W k).getD j 0 ≠ (W k).getD i 0) := w4
        have HEW : Hid ((W k).length = NW k) := eW
        have HER : Hid ((R k).length = NR k) := eR
        have hw0 : 1 ≤ NW k := by
          rw [← eW]
          cases hW : W k with
          | nil => exact absurd hW w1
          | cons x l => simp
        have q0 := vi_at (l := W k) (k := 0) (by rw [eW]; omega)
        obtain ⟨gw, rfl, hgw, cw0⟩ := RW.out 0 _ q0
        rw [w2] at cw0
        have HC0 : Hid (u2.cell? ⟨gw, 0, none⟩ = some (.int .i64 A)) := cw0
        clear q0 cw0 w1 w2 w3 w4 eW eR hgw
        generalize atS (R k) (W k) = AT at *
        generalize W k = Wk at *
        generalize R k = Rk at *
        generalize NW k = nw at *
        generalize NR k = nr at *
        generalize PA k = pa at *
        generalize PC k = pc at *
        go_wp2_with fail
        go_loopw [13, 14] (fun x y wi => ∃ i m : Nat, i ≤ nw ∧ x = .int .i64 (AT i) ∧ y = .int .i64 i ∧ wi = u2.drewN m) (fun _ y _ => nw - (RowKit.intOf y).toNat)
        case atStart => exact ⟨0, 0, Nat.zero_le _, by rw [HA0.out]; rfl, rfl, rfl⟩
        case round =>
          obtain ⟨i, m, hi, rfl, rfl, rfl⟩ := hrel
          have hatl := HAl.out i hi
          by_cases hin : i < nw
          · have hinz : (i : Int) < nw := by omega
            have hi0 : (0 : Int) ≤ i := by omega
            have qi := vi_at (l := Wk) (k := i) (by rw [HEW.out]; exact hin)
            obtain ⟨g', e1, _, ci⟩ := RW.out i _ qi
            obtain rfl : gw = g' := by simpa using e1
            have Hne : Hid (∀ j, j < i → Wk.getD j 0 ≠ Wk.getD i 0) := fun j hj => Hw4.out j i hj hin
            have HA1 := HAs.out i
            have HA2 := HAn.out i
            clear qi e1
            obtain ⟨y, hy⟩ : ∃ y, Wk.getD i 0 = y := ⟨_, rfl⟩
            rw [hy] at ci Hne HA1 HA2
            have HA1 : Hid (AT i < nr → y = Rk.getD (AT i) 0 → AT (i + 1) = AT i + 1) := HA1
            have HA2 : Hid ((AT i < nr → y ≠ Rk.getD (AT i) 0) → AT (i + 1) = AT i) := HA2
            clear hy
            go_wp2_with fail
            go_loopw [15] (fun z wi => ∃ j m : Nat, j ≤ i ∧ z = .int .i64 j ∧ wi = u2.drewN m) (fun z _ => i - (RowKit.intOf z).toNat)
            case atStart => exact ⟨0, m, Nat.zero_le _, rfl, rfl⟩
            case round =>
              obtain ⟨j, m2, hj, rfl, rfl⟩ := hrel
              by_cases hji : j < i
              · have hjz : (j : Int) < i := by omega
                have hj0 : (0 : Int) ≤ j := by omega
                have hjn : (j : Int) < nw := by omega
                have qj := vi_at (l := Wk) (k := j) (by rw [HEW.out]; omega)
                obtain ⟨g', e1, _, cj⟩ := RW.out j _ qj
                obtain rfl : gw = g' := by simpa using e1
                have hne := Hne.out j hji
                clear qj e1
                generalize Wk.getD j 0 = x at *
                have hne2 : (x == y) = false := by simpa using hne
                clear hne
                go_wp2_with fail
                go_quiet (fail)
                go_wp2
                go_roundw
                case rel => exact ⟨j + 1, _, by omega, by go_num, rfl⟩
                case measure => simp [RowKit.intOf]; omega
              · obtain rfl : j = i := by omega
                have hjz : ¬ (j : Int) < j := by omega
                have cp := CP.out
                by_cases h1 : AT j < nr
                · have h1z : (AT j : Int) < nr := by omega
                  have h10 : (0 : Int) ≤ AT j := by omega
                  have qp := vi_at (l := Rk) (k := AT j) (by rw [HER.out]; exact h1)
                  obtain ⟨gp, rfl, _, cpp⟩ := RP.out (AT j) _ qp
                  have HA1 := HA1.out h1
                  have HA2 := HA2.out
                  clear qp
                  generalize Rk.getD (AT j) 0 = p at *
                  by_cases h2 : y = p
                  · have hb : (y == p) = true := by simpa using h2
                    have HAA : Hid (AT (j + 1) = AT j + 1) := HA1 h2
                    clear HA1 HA2 h2 h1
                    generalize hAj : AT j = aj at *
                    have haj : (aj : Int) ≤ 10 := by omega
                    clear hAj
                    go_wp2_with fail
                    go_quiet (fail)
                    go_wp2
                    go_roundw
                    case rel => exact ⟨j + 1, _, by omega, by rw [HAA.out]; go_num, by go_num, rfl⟩
                    case measure => simp [RowKit.intOf]; omega
                  · have hb : (y == p) = false := by simpa using h2
                    have HAA : Hid (AT (j + 1) = AT j) := HA2 (fun _ => h2)
                    clear HA1 HA2 h2 h1
                    go_wp2_with fail
                    go_quiet (fail)
                    go_wp2
                    go_roundw
                    case rel => exact ⟨j + 1, _, by omega, by rw [HAA.out], by go_num, rfl⟩
                    case measure => simp [RowKit.intOf]; omega
                · have h1z : ¬ (AT j : Int) < nr := by omega
                  have h1d : decide ((AT j : Int) < (nr : Int)) = false := by simp; omega
                  have hatj : AT j = nr := by omega
                  have h1e : ¬ (nr : Int) < (nr : Int) := by omega
                  have HAA : Hid (AT (j + 1) = AT j) := HA2.out (fun h => absurd h h1)
                  rw [hatj] at HAA
                  rw [hatj]
                  have h1f : decide ((nr : Int) < (nr : Int)) = false := by simp
                  clear h1 h1d h1z hatj
                  go_wp2_with fail
                  go_quiet (fail)
                  go_wp2
                  go_roundw
                  case rel => exact ⟨j + 1, _, by omega, by rw [HAA.out], by go_num, rfl⟩
                  case measure => simp [RowKit.intOf]; omega
          · obtain rfl : i = nw := by omega
            have hinz : ¬ (i : Int) < i := by omega
            have e := HAe.out
            have cp := CP.out
            have c0 := HC0.out
            have hb1 : (AT i != nr) = false := by rw [e]; simp
            have hAA : (A != A) = false := by simp
            have hz : ((i : Int) == 0) = false := by simp; omega
            have hi1 : (0 : Int) < i := by omega
            rw [e]
            have hrr : ((nr : Int) != (nr : Int)) = false := by simp
            clear e hb1 hatl HAe HAs HAn HAl
            go_wp2
            go_roundw
            case rel => exact ⟨k + 1, by omega, by go_num, HB2.out.trans (by have := HB2.out.size; exact ⟨rfl, rfl, rfl, Nat.le_refl _, fun _ _ => rfl⟩)⟩
            case measure => simp [RowKit.intOf]; omega
      · obtain rfl : k = 2 := by omega
        obtain ⟨u9, rfl⟩ : ∃ u9 : World, u9 = wr := ⟨_, rfl⟩
        have HB9 : Hid (Below w.heap.size w u9) := T6.out.below
        clear HWY HP4 HWl hgen T6 HB
        go_wp2_with fail
        go_loopw [16] (fun x wi => ∃ i m : Nat, i ≤ n ∧ x = .int .i64 i ∧ wi = u9.drewN m) (fun x _ => n - (RowKit.intOf x).toNat)
        case atStart => exact ⟨0, 0, Nat.zero_le _, rfl, rfl⟩
        case round =>
          obtain ⟨i, m, hi, rfl, rfl⟩ := hrel
          by_cases hin : i < n
          · have hinz : (i : Int) < n := by omega
            have hi0 : (0 : Int) ≤ i := by omega
            have hiT : i < T.length := by rw [HN.out]; exact hin
            have qi := vi_at (l := T) (k := i) hiT
            obtain ⟨gt, rfl, _, ct⟩ := RT6.out i _ qi
            have hx1 := HP5.out _ (getD_mem hiT)
            have HCn : Hid (∀ k, k < 3 → cnt3 (T.getD i 0) R k (NR k) = cnt3 (T.getD i 0) R (k + 1) 0) := fun k hk => by rw [← HNR.out k]; exact cnt3_next _ R k hk
            have HCy : Hid (∀ k j, j < NR k → (R k).getD j 0 = T.getD i 0 → cnt3 (T.getD i 0) R k (j + 1) = cnt3 (T.getD i 0) R k j + 1) := fun k j hj h => by rw [cnt3_step _ R k j (by rw [HNR.out]; exact hj), if_pos h]
            have HCo : Hid (∀ k j, j < NR k → (R k).getD j 0 ≠ T.getD i 0 → cnt3 (T.getD i 0) R k (j + 1) = cnt3 (T.getD i 0) R k j) := fun k j hj h => by rw [cnt3_step _ R k j (by rw [HNR.out]; exact hj), if_neg h]
            have HCb : Hid (∀ k j, k < 3 → cnt3 (T.getD i 0) R k j ≤ 100) := fun k j hk => by
              have b : ∀ k', k' < 3 → List.count (T.getD i 0) (R k') ≤ 10 := fun k' hk' => Nat.le_trans (List.count_le_length) (by rw [HNR.out]; exact HRl.out k' hk')
              have b0 := b 0 (by decide)
              have b1 := b 1 (by decide)
              have b2 := b 2 (by decide)
              have b3 : List.count (T.getD i 0) ((R k).take j) ≤ 10 := Nat.le_trans (List.count_le_length) (by rw [List.length_take, HNR.out]; have := HRl.out k hk; omega)
              unfold cnt3
              split <;> split <;> split <;> omega
            have HC00 : Hid (cnt3 (T.getD i 0) R 0 0 = 0) := by show cnt3 (T.getD i 0) R 0 0 = 0; unfold cnt3; simp
            have HC30 : Hid (cnt3 (T.getD i 0) R 3 0 = 1) := hx1
            clear qi hx1 hiT
            generalize cnt3 (T.getD i 0) R = CN at *
            obtain ⟨x, hx⟩ : ∃ x, T.getD i 0 = x := ⟨_, rfl⟩
            rw [hx] at ct HCy HCo
            clear hx
            go_wp2_with fail
            go_loopw [17, 18] (fun y z wi => ∃ kk m : Nat, kk ≤ 3 ∧ y = .int .i64 (CN kk 0) ∧ z = .int .i64 kk ∧ wi = u9.drewN m) (fun _ z _ => 3 - (RowKit.intOf z).toNat)
            case atStart => exact ⟨0, m, Nat.zero_le _, by rw [HC00.out]; rfl, rfl, rfl⟩
            case round =>
              obtain ⟨kk, m2, hkk, rfl, rfl, rfl⟩ := hrel
              by_cases hk3 : kk < 3
              · have hkz : (kk : Int) < 3 := by omega
                have hkk0 : (0 : Int) ≤ kk := by omega
                have ck := C6.out kk hk3
                have HQ : Hid (Rd u9 (PA kk) (vi (R kk))) := Q6.out kk hk3
                have HL : Hid ((R kk).length = NR kk) := HNR.out kk
                have hnr := HRl.out kk hk3
                have HY : Hid (∀ j, j < NR kk → (R kk).getD j 0 = x → CN kk (j + 1) = CN kk j + 1) := HCy.out kk
                have HO : Hid (∀ j, j < NR kk → (R kk).getD j 0 ≠ x → CN kk (j + 1) = CN kk j) := HCo.out kk
                have HE : Hid (CN kk (NR kk) = CN (kk + 1) 0) := HCn.out kk hk3
                have HBd : Hid (∀ j, CN kk j ≤ 100) := fun j => HCb.out kk j hk3
                generalize NR kk = nr at *
                generalize PA kk = pa at *
                generalize PC kk = pc at *
                generalize R kk = Rk at *
                obtain ⟨C, hC⟩ : ∃ C, CN kk = C := ⟨_, rfl⟩
                rw [hC] at HY HO HE HBd ⊢
                clear hC
                go_wp2_with fail
                go_loopw [17, 19] (fun y z wi => ∃ j m : Nat, j ≤ nr ∧ y = .int .i64 (C j) ∧ z = .int .i64 j ∧ wi = u9.drewN m) (fun _ z _ => nr - (RowKit.intOf z).toNat)
                case atStart => exact ⟨0, m2, Nat.zero_le _, rfl, rfl, rfl⟩
                case round =>
                  obtain ⟨j, m3, hj, rfl, rfl, rfl⟩ := hrel
                  by_cases hjr : j < nr
                  · have hjz : (j : Int) < nr := by omega
                    have hj0 : (0 : Int) ≤ j := by omega
                    have qj := vi_at (l := Rk) (k := j) (by rw [HL.out]; exact hjr)
                    obtain ⟨gp, rfl, _, cp⟩ := HQ.out j _ qj
                    have y1 := HY.out j hjr
                    have y2 := HO.out j hjr
                    have y3 := HBd.out j
                    clear qj
                    generalize Rk.getD j 0 = p at *
                    by_cases hpx : p = x
                    · have hb : (p == x) = true := by simpa using hpx
                      have HS1 : Hid (C (j + 1) = C j + 1) := y1 hpx
                      clear y1 y2 hpx hjr
                      generalize C j = cj at *
                      have hcj : (cj : Int) ≤ 100 := by omega
                      go_wp2_with fail
                      go_quiet (fail)
                      go_wp2
                      go_roundw
                      case rel => exact ⟨j + 1, _, by omega, by rw [HS1.out]; go_num, by go_num, rfl⟩
                      case measure => simp [RowKit.intOf]; omega
                    · have hb : (p == x) = false := by simpa using hpx
                      have HS1 : Hid (C (j + 1) = C j) := y2 hpx
                      clear y1 y2 hpx hjr
                      go_wp2_with fail
                      go_quiet (fail)
                      go_wp2
                      go_roundw
                      case rel => exact ⟨j + 1, _, by omega, by rw [HS1.out], by go_num, rfl⟩
                      case measure => simp [RowKit.intOf]; omega
                  · obtain rfl : j = nr := by omega
                    have hjz : ¬ (j : Int) < j := by omega
                    rw [HE.out]
                    go_wp2
                    go_roundw
                    case rel => exact ⟨kk + 1, _, by omega, rfl, by go_num, rfl⟩
                    case measure => simp [RowKit.intOf]; omega
              · obtain rfl : kk = 3 := by omega
                rw [HC30.out]
                go_wp2
                go_roundw
                case rel => exact ⟨i + 1, _, by omega, by go_num, rfl⟩
                case measure => simp [RowKit.intOf]; omega
          · obtain rfl : i = n := by omega
            have hinz : ¬ (i : Int) < i := by omega
            have HBm : Hid (Below w.heap.size w (u9.drewN m)) := nxt HB9.out (below_drewN u9 m)
            go_wp2
            go_ret
            exact ⟨rfl, HBm.out⟩
end Go.Proofs.YtcebfkkpclnmoaaDoor
