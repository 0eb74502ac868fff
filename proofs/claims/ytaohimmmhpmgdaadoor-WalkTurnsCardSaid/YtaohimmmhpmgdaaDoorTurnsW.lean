/-
  The walk of WalkTurns. (Written by gen_w9.py.)
-/
import Derived.Test.YtaohimmmhpmgdaaDoorLC
import Derived.Test.YtaohimmmhpmgdaaDoorGback
namespace Go.Proofs.YtaohimmmhpmgdaaDoor
open Go.RowKit

/-- A way and the way back. -/
theorem turns_inv {c : Cf} {a b : Int} (ha : isN c a = true) (hb : isN c b = true) (cs : List Int) : ∃ (far : Nat) (N P F G : Nat → Int), way c a b cs = wyK N (far + 1) ∧ far ≤ 126 ∧
    (∀ k, k < far → bsN c (N k) (P k) = N (k + 1) ∧ bsB c (N k) (P k) = true) ∧ (∀ k, k < far → bsN c (F k) (G k) = F (k + 1) ∧ bsB c (F k) (G k) = true) ∧
    (∀ j p, p + j = far → N p = F j) ∧ (∀ k j, k + j + 1 = far → G j = bck (P k)) := by
  obtain ⟨far, N, P, e1, e2, _, _, _, e6, _, _⟩ := far_inv ha hb cs
  refine ⟨far, N, P, fun k => N (far - k), fun k => bck (P (far - 1 - k)), e1, e2, e6, fun k hk => ?_, fun j p h => ?_, fun k j h => ?_⟩
  · have h := e6 (far - 1 - k) (by omega)
    have hb := back_ok h.2
    rw [h.1, show far - 1 - k + 1 = far - k by omega] at hb
    refine ⟨?_, hb.1⟩
    show bsN c (N (far - k)) (bck (P (far - 1 - k))) = N (far - (k + 1))
    rw [hb.2, show far - (k + 1) = far - 1 - k by omega]
  · show N p = N (far - j)
    rw [show far - j = p by omega]
  · show bck (P (far - 1 - j)) = bck (P k)
    rw [show far - 1 - j = k by omega]
theorem lt_of_cell {w : World} {g j : Nat} {x : Value} (h : w.cell? ⟨g, j, none⟩ = some x) : g < w.heap.size := by
  rcases Nat.lt_or_ge g w.heap.size with h' | h'
  · exact h'
  · simp [World.cell?, Array.getElem?_eq_none h'] at h
theorem Rd.at {w : World} {s : Option Addr} {f : Nat → Int} {n i : Nat} (h : Rd w s (vi (wyK f n))) (hi : i < n) : ∃ g, s = some ⟨g, 0, none⟩ ∧ g < w.heap.size ∧ w.cell? ⟨g, i, none⟩ = some (.int .i64 (f i)) := by
  have hv := vi_at (l := wyK f n) (k := i) (by rw [wyK_len]; exact hi)
  rw [wyK_at f hi] at hv
  exact h i _ hv

set_option maxRecDepth 100000 in
set_option maxHeartbeats 4000000 in
theorem walkTurns_any (c : Cf) (a0 a1 : Int) (s : Option Addr) (l : List Int) (cap : Nat) (w : World) (hlc : l.length ≤ cap) (hr : RdA w s (vi l)) (hi : ∀ n ∈ l, inI n) (hS : Steps w) (hT : Tabs w) (hB : Backs w) :
    Calls Tryd.prog 7 #[cfv c, .agg #[.int .i64 a0, .int .i64 a1], .slice s l.length cap] w fun e w' => e = .returned (.bool true) ∧ Below w.heap.size w w' := by
  have T0 : Hid (Wk w c #[.int .i64 a0, .int .i64 a1] 30 ((w.alloc (.cells (cfc c) 29)).alloc (.cells #[.int .i64 a0, .int .i64 a1] 30))) := Wk.start _ _ _ _
  have LV := lives_any _ (T0.out.steps hS) (T0.out.tabs hT)
  have SM := fun v => small_form c v
  have HS : Hid (Steps w) := hS
  obtain ⟨i0, ki, hz0, hz1, hz2⟩ := info_parts Tryd.info3
  have HT : Hid (Tabs w) := hT
  have HBK : Hid (Backs w) := hB
  obtain ⟨cs, hcs⟩ : ∃ cs, l.take 20 = cs := ⟨_, rfl⟩
  have HR : Hid (RdA w s (vi cs)) := hcs ▸ hr.take 20
  have HI : Hid (∀ n ∈ cs, inI n) := show _ from fun n hn => hi n (List.mem_of_mem_take (hcs ▸ hn))
  have FW := fun v => few_any s l.length cap cs.length v hlc (by rw [← hcs, List.length_take]; omega)
  have hcl : cs.length ≤ 20 ∧ cs.length ≤ cap := by rw [← hcs, List.length_take]; omega
  generalize l.length = ln at *
  clear hS hT hB hr hi hcs hlc
  obtain ⟨cw, ch, cl, cd, cr, ci, cb, we, ca⟩ := c
  simp only [cfv, cfc] at *
  go_enter Tryd.func7, Tryd.ntmps7
  go_wp2_with fail
  go_at_call 8
  refine LV.mono ?_
  rintro e v1 ⟨rfl, hb⟩
  have T1 : Hid (Wk w ⟨cw, ch, cl, cd, cr, ci, cb, we, ca⟩ #[.int .i64 a0, .int .i64 a1] 30 v1) := T0.out.next hb
  clear hb LV T0
  go_upto_region 3 with fail
  go_cut [] from 19 to 20 (fun wc => ∃ c', Wk w c' #[.int .i64 a0, .int .i64 a1] 30 wc ∧ Fits c')
  case first =>
    obtain ⟨x0, x1, x2, x3, x4, x5, x6, x7, x8⟩ := T1.out.cells
    simp only at x0 x1 x2 x3 x4 x5 x6 x7 x8
    have z1 := T1.out.lt
    go_wp2_with fail
    go_at_call 14
    refine (SM _).mono ?_
    rintro e v2 ⟨dw, dh, dl, dd, dr, di, db, de, da, rfl, hb, f, f1, f2⟩
    have T2 : Hid (Wk w _ #[.int .i64 a0, .int .i64 a1] 30 v2) := T1.out.next hb
    have HF : Hid (Fits ⟨dw, dh, dl, dd, dr, di, db, de, da⟩) := f
    clear x0 x1 x2 x3 x4 x5 x6 x7 x8 hb SM f f1 f2 z1
    obtain ⟨x0, x1, x2, x3, x4, x5, x6, x7, x8⟩ := T2.out.cells
    simp only at x0 x1 x2 x3 x4 x5 x6 x7 x8
    obtain ⟨g0, g1, g2, g3, g4, g5, g6, g7, g8⟩ := T2.out.free
    go_wp2_with fail
    go_meet
    exact ⟨⟨dw, dh, dl, dd, dr, di, db, de, da⟩, T2.out.all ⟨dw, dh, dl, dd, dr, di, db, de, da⟩, HF.out⟩
  case rest =>
  obtain ⟨c', h2, f⟩ := hcut
  obtain ⟨v2, rfl⟩ : ∃ v2 : World, v2 = wc := ⟨_, rfl⟩
  have T2 : Hid (Wk w c' #[.int .i64 a0, .int .i64 a1] 30 v2) := h2
  clear h2 T1 SM
  have hc := chk_fits f
  have I1 := nde_in hc a0
  have I2 := nde_in hc a1
  have N1 := node_any c' hc a0
  have N2 := node_any c' hc a1
  obtain ⟨far, N, P, F, G, e1, e2, e3, e4, e5, e6⟩ := turns_inv I1 I2 cs
  have WY := fun v h1 h2 h3 => way_any c' (nde c' a0) (nde c' a1) s cs cap v h1 h2 h3 HI.out
  have PW := fun a cp v h1 h2 => wports_any c' N P far a cp v h1 (by omega) h2 e3
  have PB := fun a cp v h1 h2 => wports_any c' F G far a cp v h1 (by omega) h2 e4
  have BE := fun k v h => beside_any c' (N k) (P k) v h
  have HE3 : Hid (∀ k, k < far → bsN c' (N k) (P k) = N (k + 1) ∧ bsB c' (N k) (P k) = true) := e3
  have HE5 : Hid (∀ j p, p + j = far → N p = F j) := e5
  have HE6 : Hid (∀ k j, k + j + 1 = far → G j = bck (P k)) := e6
  simp only [e1] at WY
  clear hc f I1 I2 e1 e3 e4 e5 e6
  generalize nde c' a0 = A at *
  generalize nde c' a1 = B at *
  generalize bsN c' = BN at *
  generalize bsB c' = BB at *
  obtain ⟨cw', ch', cl', cd', cr', ci', cb', we', ca'⟩ := c'
  simp only [cfv, cfc] at *
  obtain ⟨m, hm⟩ : ∃ m, far + 1 = m := ⟨_, rfl⟩
  rw [hm] at PW PB
  simp only [hm] at WY
  have HM : Hid (far + 1 = m) := hm
  have em : IntKind.i64.wrap ((m : Int) - 1) = (far : Int) := by rw [IntWalk.i64_in _ (by omega)]; omega
  have hm1 : m ≤ 127 := by omega
  clear hm
  have D1 := T2.out.drew
  have S1 := And.intro D1.tops D1.cells
  have WY1 := fun v (h : Wk w ⟨cw', ch', cl', cd', cr', ci', cb', we', ca'⟩ #[.int .i64 a0, .int .i64 a1] 30 v) => (WY v (h.steps HS.out) (h.tabs HT.out) (HR.out.below h.below)).mono fun _ _ h => h.wy
  clear WY
  go_wp2_with fail
  go_region_held3 (fun v => (v.cell? ⟨w.heap.size + 1, 0, none⟩ = some (.int .i64 a0) ∧ v.cell? ⟨w.heap.size + 1, 1, none⟩ = some (.int .i64 a1)) ∧ v.cell? ⟨w.heap.size, 0, none⟩ = some (.int .i64 cw') ∧ v.cell? ⟨w.heap.size, 1, none⟩ = some (.int .i64 ch') ∧ v.cell? ⟨w.heap.size, 2, none⟩ = some (.int .i64 cl') ∧ v.cell? ⟨w.heap.size, 3, none⟩ = some (.int .i64 cd') ∧ v.cell? ⟨w.heap.size, 4, none⟩ = some (.int .i64 cr') ∧ v.cell? ⟨w.heap.size, 5, none⟩ = some (.int .i64 ci') ∧ v.cell? ⟨w.heap.size, 6, none⟩ = some (.int .i64 cb') ∧ v.cell? ⟨w.heap.size, 7, none⟩ = some (.bool we') ∧ v.cell? ⟨w.heap.size, 8, none⟩ = some (.bool ca'))
    (first | exact S4 | exact S3 | exact S2 | exact S1 | go_keep)
    (first
      | (go_at_call 15; (with_reducible refine (N1 _).mono ?_); rintro e u2 ⟨rfl, hb2⟩; have D2 := D1.next hb2; have S2 := And.intro D2.tops D2.cells)
      | (go_at_call 15; (with_reducible refine (N2 _).mono ?_); rintro e u3 ⟨rfl, hb3⟩; have D3 := D2.next hb3; have S3 := And.intro D3.tops D3.cells)
      | (go_at_call 17; (with_reducible refine (FW _).mono ?_); rintro e u4 ⟨rfl, rfl⟩)
      | (go_at_call 16; (with_reducible refine (WY1 _ D3).mono ?_); rintro e v4 ⟨aw, cpw, rfl, hcw, r4, hb4⟩; have D4 := D3.next hb4; have S4 := And.intro D4.tops D4.cells))
  have T4 : Hid (Wk w ⟨cw', ch', cl', cd', cr', ci', cb', we', ca'⟩ #[.int .i64 a0, .int .i64 a1] 30 v4) := D4
  have R4 : Hid (Rd v4 aw (vi (wyK N m))) := r4
  clear D1 S1 D2 S2 D3 S3 D4 S4 hb2 hb3 hb4 r4 WY1 N1 N2 FW T2
  go_wp2_with fail
  go_loopw [8, 9] (fun v i wr => ∃ (j : Nat) (x : Int), j ≤ m ∧ i = .int .i64 x ∧ x = (far : Int) - j ∧ Own 3 wr v4.heap.size v (vi (wyK F j)) ∧ Below v4.heap.size v4 wr) (fun _ i _ => (RowKit.intOf i + 1).toNat)
  case atStart => exact ⟨0, far, Nat.zero_le _, rfl, by simp, Own.nil _ _ _, Below.refl _ _⟩
  case round =>
    obtain ⟨j, x, hj, rfl, hx, own, hb⟩ := hrel
    have HB : Hid (Below v4.heap.size v4 wr) := hb
    have hsa : v4.heap.size ≤ wr.heap.size := hb.size
    by_cases hlt : j < m
    · obtain ⟨p, rfl⟩ : ∃ p : Nat, x = (p : Int) := ⟨(far - j), by have := HM.out; omega⟩
      have hpj : p + j = far := by omega
      obtain ⟨g, rfl, hg, c0⟩ := R4.out.at (i := p) (by have := HM.out; omega)
      have c1 : wr.cell? ⟨g, p, none⟩ = some (.int .i64 (N p)) := (hb.cell (p := ⟨g, p, none⟩) hg).trans c0
      rw [HE5.out j p hpj] at c1
      have p1 : (0 : Int) ≤ (p : Int) := by omega
      have p2 : (p : Int) < (m : Int) := by have := HM.out; omega
      have p3 : p ≤ 127 := by omega
      have hll : Hid ((vi (wyK F j)).length ≤ 1000000) := by unfold Hid; rw [vi_len, wyK_len]; omega
      have hvs : Hid (vi (wyK F j) ++ [.int .i64 (F j)] = vi (wyK F (j + 1))) := by unfold Hid; rw [← wyK_succ, vi_snoc]
      have HPJ : Hid (p + j = far) := hpj
      clear c0 hg hb hx hpj PW PB BE
      generalize F j = y at *
      go_wp2_with (at_builtin; refine wpList_app_one rfl (.tmp 40) (.tmp 45) 22 3 i0 (.int .i64 0) 8 rfl Tryd.underlying22 ki hz0 hz1 hz2 rfl (by decide) v4.heap.size wr _ _ (.int .i64 y) rfl own rfl rfl hll.out hsa ?_; intro v1' wb o1 kb; have ab : Hid (Below v4.heap.size v4 wb) := kb.2.1 _ HB.out; clear kb own)
      rw [hvs.out] at o1
      go_roundw
      case rel => exact ⟨j + 1, (p : Int) - 1, by omega, rfl, by have := HPJ.out; omega, o1, ab.out⟩
      case measure => simp [RowKit.intOf]
    · obtain rfl : j = m := by omega
      have hx1 : ¬ (0 : Int) ≤ x := by have := HM.out; omega
      have hx2 : x < 0 := by omega
      have HO : Hid (Own 3 wr v4.heap.size _ (vi (wyK F j))) := own
      have T5 : Hid (Wk w ⟨cw', ch', cl', cd', cr', ci', cb', we', ca'⟩ #[.int .i64 a0, .int .i64 a1] 30 wr) := T4.out.next HB.out
      have R5 : Hid (Rd wr aw (vi (wyK N j))) := R4.out.below HB.out
      clear hx own hb hsa T4 R4 HB
      obtain ⟨ab, cpb, rfl, _, _, rb⟩ := HO.out.rd
      have RB : Hid (Rd wr ab (vi (wyK F j))) := rb
      rw [vi_len, wyK_len]
      clear HO rb
      obtain ⟨x0, x1, x2, x3, x4, x5, x6, x7, x8⟩ := T5.out.cells
      simp only at x0 x1 x2 x3 x4 x5 x6 x7 x8
      go_wp2_with fail
      go_at_call 22
      refine (PW _ _ _ (T5.out.steps HS.out) (RdA.of R5.out)).mono ?_
      rintro e v6 h6
      obtain ⟨ap, cpp, rfl, _, rp, hb⟩ := h6.rd
      have T6 : Hid (Wk w ⟨cw', ch', cl', cd', cr', ci', cb', we', ca'⟩ #[.int .i64 a0, .int .i64 a1] 30 v6) := T5.out.next hb
      have R6 : Hid (Rd v6 aw (vi (wyK N j))) := R5.out.below hb
      have RB6 : Hid (Rd v6 ab (vi (wyK F j))) := RB.out.below hb
      have RP6 : Hid (Rd v6 ap (vi (wyK P far))) := rp
      rw [wyK_len]
      clear h6 rp hb PW T5 R5 RB x0 x1 x2 x3 x4 x5 x6 x7 x8
      obtain ⟨x0, x1, x2, x3, x4, x5, x6, x7, x8⟩ := T6.out.cells
      simp only at x0 x1 x2 x3 x4 x5 x6 x7 x8
      go_wp2_with fail
      go_at_call 22
      refine (PB _ _ _ (T6.out.steps HS.out) (RdA.of RB6.out)).mono ?_
      rintro e v7 h7
      obtain ⟨aq, cpq, rfl, _, rq, hb⟩ := h7.rd
      have T7 : Hid (Wk w ⟨cw', ch', cl', cd', cr', ci', cb', we', ca'⟩ #[.int .i64 a0, .int .i64 a1] 30 v7) := T6.out.next hb
      have R7 : Hid (Rd v7 aw (vi (wyK N j))) := R6.out.below hb
      have RP7 : Hid (Rd v7 ap (vi (wyK P far))) := RP6.out.below hb
      have RQ7 : Hid (Rd v7 aq (vi (wyK G far))) := rq
      rw [wyK_len]
      clear h7 rq hb PB T6 R6 RB6 RP6 x0 x1 x2 x3 x4 x5 x6 x7 x8
      have w1 : ¬ (j : Int) = 0 := by have := HM.out; omega
      have w2 : ((j : Int) == 0) = false := by simpa using w1
      have w3 : ((far : Int) != (far : Int)) = false := by simp
      go_wp2_with fail
      go_loopw [14] (fun i wr => ∃ k : Nat, k ≤ far ∧ i = .int .i64 k ∧ Below v7.heap.size v7 wr) (fun i _ => far - (RowKit.intOf i).toNat)
      case atStart => exact ⟨0, Nat.zero_le _, rfl, Below.refl _ _⟩
      case round =>
        obtain ⟨k, hk, rfl, hb⟩ := hrel
        have HB : Hid (Below v7.heap.size v7 wr) := hb
        by_cases hkl : k < far
        · obtain ⟨k1, hk1⟩ : ∃ k1, k + 1 = k1 := ⟨_, rfl⟩
          obtain ⟨q, hq⟩ : ∃ q, k + q + 1 = far := ⟨far - k - 1, by omega⟩
          obtain ⟨n1, hn1⟩ : ∃ n1, far = n1 + 1 := ⟨far - 1, by omega⟩
          obtain ⟨g, rfl, hg, c0⟩ := R7.out.at (i := k) (by have := HM.out; omega)
          obtain ⟨g', e', _, c1⟩ := R7.out.at (i := k1) (by have := HM.out; omega)
          simp only [Option.some.injEq, Addr.mk.injEq] at e'
          obtain ⟨rfl, _⟩ := e'
          obtain ⟨gp, rfl, hgp, c2⟩ := RP7.out.at (i := k) hkl
          obtain ⟨gq, rfl, hgq, c3⟩ := RQ7.out.at (i := q) (by omega)
          obtain ⟨b1, b2⟩ := HE3.out k hkl
          have b3 := HE6.out k q hq
          have K := BE k
          rw [b1, b2, hk1] at K
          rw [b3] at c3
          have d0 : ∀ p : Gw wr, p.v.cell? ⟨g, k, none⟩ = some (.int .i64 (N k)) := fun p => p.cell (Nat.lt_of_lt_of_le hg hb.size) ((hb.cell (p := ⟨g, k, none⟩) hg).trans c0)
          have d2 : ∀ p : Gw wr, p.v.cell? ⟨gp, k, none⟩ = some (.int .i64 (P k)) := fun p => p.cell (Nat.lt_of_lt_of_le hgp hb.size) ((hb.cell (p := ⟨gp, k, none⟩) hgp).trans c2)
          have h1 : (k : Int) < (far : Int) := by omega
          have h2 : (k : Int) < (j : Int) := by have := HM.out; omega
          have h3 : (0 : Int) ≤ (k : Int) := by omega
          have h4 : (k1 : Int) < (j : Int) := by have := HM.out; omega
          have h5 : (0 : Int) ≤ (k1 : Int) := by omega
          have h6 : (q : Int) < (far : Int) := by omega
          have h7 : (0 : Int) ≤ (q : Int) := by omega
          have e1 : IntKind.i64.wrap ((k : Int) + 1) = (k1 : Int) := by rw [IntWalk.i64_in _ (by omega)]; omega
          have e2 : IntKind.i64.wrap ((far : Int) - 1) = (n1 : Int) := by rw [IntWalk.i64_in _ (by omega)]; omega
          have e3 : IntKind.i64.wrap ((n1 : Int) - (k : Int)) = (q : Int) := by rw [IntWalk.i64_in _ (by omega)]; omega
          have T8 : Hid (Wk w ⟨cw', ch', cl', cd', cr', ci', cb', we', ca'⟩ #[.int .i64 a0, .int .i64 a1] 30 wr) := T7.out.next hb
          have HK1 : Hid (k + 1 = k1) := hk1
          have HC : Hid (∀ v, Below wr.heap.size wr v → v.cell? ⟨g, k1, none⟩ = some (.int .i64 (N k1)) ∧ v.cell? ⟨gq, q, none⟩ = some (.int .i64 (bck (P k))) ∧ v.cell? ⟨gp, k, none⟩ = some (.int .i64 (P k))) := show _ from fun v hv =>
            have hv' : Below v7.heap.size v7 v := hb.trans (hv.mono hb.size)
            ⟨(hv'.cell (p := ⟨g, k1, none⟩) hg).trans c1, (hv'.cell (p := ⟨gq, q, none⟩) hgq).trans c3, (hv'.cell (p := ⟨gp, k, none⟩) hgp).trans c2⟩
          have K1 := fun (p : Gw wr) => K p.v ((T8.out.steps HS.out).next p.le)
          clear c0 c1 c2 c3 hg hgp hgq b1 b2 b3 hb hk1 hn1 hq K BE HE3 HE6 HE5
          generalize N k = x at *
          generalize N k1 = y at *
          generalize P k = pk at *
          obtain ⟨q0, q1, q2, q3, q4, q5, q6, q7, q8⟩ := T8.out.gw
          simp only at q0 q1 q2 q3 q4 q5 q6 q7 q8
          go_wp2_with fail
          refine region_gw (by kernel_rfl) (by kernel_rfl) ?_
          repeat (first | go_big_quiet_skip | quiet_step ((go_at_call 23; exact quiet_below (K1 _))))
          refine wpQuiet_nil ?_
          intro v9 hw'
          obtain ⟨⟨u5, hb9⟩, hw''⟩ := hw'
          obtain rfl : v9 = u5 := hw''
          have B9 : Hid (Below v7.heap.size v7 v9) := HB.out.trans (hb9.mono HB.out.size)
          obtain ⟨d1, d3, d4⟩ := HC.out v9 hb9
          have BK := fun (p : Gw v9) => (back_any pk p.v (HBK.out.next ((T8.out.below.trans (hb9.mono T8.out.below.size)).trans (p.le.mono (T8.out.below.trans (hb9.mono T8.out.below.size)).size)))).mono fun e w' (h : e = .returned (.int .i64 (bck pk)) ∧ p.v = w') => (⟨h.1, by rw [← h.2]; exact Below.refl _ _⟩ : e = .returned (.int .i64 (bck pk)) ∧ Below p.v.heap.size p.v w')
          have t1 : ∀ p : Gw v9, p.v.cell? ⟨g, k1, none⟩ = some (.int .i64 y) := fun p => p.cell (lt_of_cell d1) d1
          have t3 : ∀ p : Gw v9, p.v.cell? ⟨gq, q, none⟩ = some (.int .i64 (bck pk)) := fun p => p.cell (lt_of_cell d3) d3
          have t4 : ∀ p : Gw v9, p.v.cell? ⟨gp, k, none⟩ = some (.int .i64 pk) := fun p => p.cell (lt_of_cell d4) d4
          have s1 : (y != y) = false := by simp
          clear q0 q1 q2 q3 q4 q5 q6 q7 q8 d0 d2 d1 d3 d4 K1 hb9 T8 HC HB
          generalize bck pk = bk at *
          have s2 : (bk != bk) = false := by simp
          go_wp2_with fail
          refine region_gw (by kernel_rfl) (by kernel_rfl) ?_
          repeat (first | go_big_quiet_skip | quiet_step ((go_at_call 24; exact quiet_below (BK _))))
          refine wpQuiet_nil ?_
          intro v10 hw'
          obtain ⟨⟨u5, hb10⟩, hw''⟩ := hw'
          obtain rfl : v10 = u5 := hw''
          have B10 : Hid (Below v7.heap.size v7 v10) := B9.out.trans (hb10.mono B9.out.size)
          clear hb10 BK t1 t3 t4 B9
          go_wp2
          go_roundw
          case rel => exact ⟨k1, by have := HK1.out; omega, rfl, B10.out⟩
          case measure => have := HK1.out; simp [RowKit.intOf]; omega
        · obtain rfl : k = far := by omega
          have h1 : ¬ (k : Int) < (k : Int) := by omega
          have B8 : Hid (Below w.heap.size w wr) := (T7.out.next hb).below
          clear hb HB BE
          go_wp2
          go_ret
          exact ⟨rfl, B8.out⟩
end Go.Proofs.YtaohimmmhpmgdaaDoor
