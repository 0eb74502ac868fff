/-
  The walk of the document's Read.
-/
import Derived.Test.YtnhfoojnokiboaaReadP
import Derived.Test.YtnhfoojnokiboaaBack
import Derived.Test.YtnhfoojnokiboaaRsame
namespace Go.Proofs.Ytnhfoojnokiboaa
open Go.RowKit

set_option maxRecDepth 100000 in
set_option maxHeartbeats 16000000 in
theorem rrd_any (l : List Nat) (a : Option Addr) (cap : Nat) (w : World) (hl : l.length ≤ 1000000) (hW : ∀ x ∈ l, x < 18446744073709551616) (hr : Rd w a (vw l)) :
    Calls Try.prog 22 #[.slice a l.length cap] w fun e w' => ∃ a' cap', e = .returned (.tuple #[pcv (readPc l).1.s (readPc l).1.c (.slice a' (readPc l).1.hs.length cap') (readPc l).1.x, .int .i64 (readPc l).2]) ∧ (readPc l).1.hs.length ≤ cap' ∧ Rd w' a' (pc (readPc l).1.hs) ∧ Below w.heap.size w w' := by
  obtain ⟨i0, ki, hz0, hz1, hz2⟩ := info_parts Try.info63
  have HR : Hid (Rd w a (vw l)) := hr
  have HW : Hid (∀ x ∈ l, x < 18446744073709551616) := hW
  obtain ⟨rs, hrs⟩ : ∃ rs, readPc l = rs := ⟨_, rfl⟩
  have HRS : Hid (readPc l = rs) := hrs
  rw [hrs]
  obtain ⟨n, hn⟩ : ∃ n, l.length = n := ⟨_, rfl⟩
  have HN : Hid (l.length = n) := hn
  have HC : Hid (∀ k, k < n → ∀ w, Calls Try.prog 35 #[.int .u64 ((l.getD k 0 : Nat) : Int)] w fun e w' => e = .returned (.tuple #[flv (readR (l.getD k 0)).1, .int .i64 (readR (l.getD k 0)).2]) ∧ Below w.heap.size w w') := show _ from fun k hk w => rread_any _ (hW _ (by
    rw [List.getD_eq_getElem?_getD, List.getElem?_eq_getElem (by omega)]
    exact List.getElem_mem _)) w
  rw [hn] at hl ⊢
  clear hr hW hrs hn
  go_enter Try.func22, Try.ntmps22
  go_wp2_with fail
  have B0 := two_blocks w (pcc 0 false (.slice none 0 0) ByteArray.empty) (pcc 0 false (.slice none 0 0) ByteArray.empty) 24 24
  go_loopw [5] (fun i wr => ∃ (k : Nat) (v : Value) (P : Pc), k ≤ n ∧ i = .int .i64 k ∧ P = pk l k ∧ (∀ j, j < k → (readR (l.getD j 0)).2 = 0) ∧ Bk wr w.heap.size (pcc 0 false (.slice none 0 0) ByteArray.empty) 24 ∧ Bk wr (w.heap.size + 1) (pcc P.s P.c v P.x) 24 ∧ OwnK 63 2 wr (w.heap.size + 2) v P.hs.length (pc P.hs) ∧ Below w.heap.size w wr ∧ w.heap.size + 2 ≤ wr.heap.size) (fun i _ => n - (RowKit.intOf i).toNat)
  case atStart => exact ⟨0, .slice none 0 0, zp, Nat.zero_le _, rfl, (pk_zero l).symm, fun j hj => absurd hj (Nat.not_lt_zero _), B0.out.1, B0.out.2.1, OwnK.nil _ _ _ _, B0.out.2.2.1, by have := B0.out.2.2.2; simp at this ⊢⟩
  case round =>
    obtain ⟨k, v, P, hk, rfl, hP, hs0, h0, h1, own, hb, hsz⟩ := hrel
    have hsm := pk_small (l := l) k (by rw [HN.out]; exact hk) hs0
    rw [← hP] at hsm
    obtain ⟨sm1, sm2⟩ := hsm
    have HS : Hid (∀ j, j < k → (readR (l.getD j 0)).2 = 0) := hs0
    have HP : Hid (P = pk l k) := hP
    have HB : Hid (Below w.heap.size w wr) := hb
    have H0 : Hid (Bk wr w.heap.size (pcc 0 false (.slice none 0 0) ByteArray.empty) 24) := h0
    have H1 : Hid (Bk wr (w.heap.size + 1) (pcc P.s P.c v P.x) 24) := h1
    have HO : Hid (OwnK 63 2 wr (w.heap.size + 2) v P.hs.length (pc P.hs)) := own
    clear hP hs0 h0 h1 own hb B0
    by_cases hlt : k < n
    · have e1 : (k : Int) < (n : Int) := by omega
      have e2 : (0 : Int) ≤ (k : Int) := by omega
      obtain ⟨g, o, ea, hg, c1⟩ := HR.out k _ (vw_at (l := l) (k := k) (by rw [HN.out]; exact hlt))
      subst ea
      have HCk := HC.out k hlt
      have HNO : Hid ((readR (l.getD k 0)).2 ≠ 0 → errR l = (readR (l.getD k 0)).2) := errR_no l k (by rw [HN.out]; exact hlt) HS.out
      have HS2 : Hid ((readR (l.getD k 0)).2 = 0 → ∀ j, j < k + 1 → (readR (l.getD j 0)).2 = 0) := show _ from fun h j hj => by
        rcases Nat.lt_or_ge j k with h' | h'
        · exact HS.out j h'
        · obtain rfl : j = k := by omega
          exact h
      have HP2 : Hid (pk l (k + 1) = P.add (readR (l.getD k 0)).1) := by
        rw [HP.out]
        exact pk_succ (by rw [HN.out]; exact hlt)
      have c1' : wr.cell? ⟨g, o + k, none⟩ = some (.int .u64 ((l.getD k 0 : Nat) : Int)) := (HB.out.cell (p := ⟨g, o + k, none⟩) hg).trans c1
      have HXF : Hid ((readR (l.getD k 0)).2 = 0 → (readR (l.getD k 0)).1.x.size ≤ 6) := show _ from fun h => by
        obtain ⟨_, hr⟩ := readR_ok h
        rcases right_forms hr with ⟨_, _, _, _, _, _, _, _, _, hx⟩ | ⟨h2, _, _, _, _, _, _, h3⟩
        · rw [hx]; decide
        · exact h3
      clear c1 HS
      obtain ⟨F, hF⟩ : ∃ F, (readR (l.getD k 0)).1 = F := ⟨_, rfl⟩
      obtain ⟨E, hEE⟩ : ∃ E, (readR (l.getD k 0)).2 = E := ⟨_, rfl⟩
      obtain ⟨W, hWW⟩ : ∃ W, l.getD k 0 = W := ⟨_, rfl⟩
      rw [hF, hEE] at HXF
      rw [hF] at HP2
      rw [hEE] at HNO HS2
      rw [hF, hEE, hWW] at HCk
      rw [hWW] at c1'
      clear hF hEE hWW
      obtain ⟨fk, fs, fd, fq, fl, fm, fc, fx⟩ := F
      simp only [flv, flc] at HCk
      simp only at HXF
      go_upto_region 5 with fail
      have HCw := HCk wr
      clear HCk
      go_upto_region 6 with (go_at_call 35; (with_reducible refine HCw.mono ?_); rintro e wa ⟨rfl, hba⟩)
      have A1 : Below wa.heap.size wa (wa.alloc (.cells #[.int .i64 fk, .int .i64 fs, .int .i64 fd, .int .i64 fq, .int .i64 fl, .bool fm, .bool fc, .string fx] 58)) := (Below.refl _ _).alloc (Nat.le_refl _) _
      have F0 : Bk (wa.alloc (.cells #[.int .i64 fk, .int .i64 fs, .int .i64 fd, .int .i64 fq, .int .i64 fl, .bool fm, .bool fc, .string fx] 58)) w.heap.size (pcc 0 false (.slice none 0 0) ByteArray.empty) 24 := (H0.out.next hba).alloc _
      have F1 : Bk (wa.alloc (.cells #[.int .i64 fk, .int .i64 fs, .int .i64 fd, .int .i64 fq, .int .i64 fl, .bool fm, .bool fc, .string fx] 58)) (w.heap.size + 1) (pcc P.s P.c v P.x) 24 := (H1.out.next hba).alloc _
      have FF : Bk (wa.alloc (.cells #[.int .i64 fk, .int .i64 fs, .int .i64 fd, .int .i64 fq, .int .i64 fl, .bool fm, .bool fc, .string fx] 58)) wa.heap.size #[.int .i64 fk, .int .i64 fs, .int .i64 fd, .int .i64 fq, .int .i64 fl, .bool fm, .bool fc, .string fx] 58 := Bk.new _ _ _
      have FO : OwnK 63 2 (wa.alloc (.cells #[.int .i64 fk, .int .i64 fs, .int .i64 fd, .int .i64 fq, .int .i64 fl, .bool fm, .bool fc, .string fx] 58)) (w.heap.size + 2) v P.hs.length (pc P.hs) := (HO.out.below hba).below A1
      have FB : Below w.heap.size w (wa.alloc (.cells #[.int .i64 fk, .int .i64 fs, .int .i64 fd, .int .i64 fq, .int .i64 fl, .bool fm, .bool fc, .string fx] 58)) := (HB.out.trans (hba.mono HB.out.size)).trans (A1.mono (Nat.le_trans HB.out.size hba.size))
      have fb : w.heap.size + 2 ≤ wa.heap.size := Nat.le_trans hsz hba.size
      have fz : wa.heap.size < (wa.alloc (.cells #[.int .i64 fk, .int .i64 fs, .int .i64 fd, .int .i64 fq, .int .i64 fl, .bool fm, .bool fc, .string fx] 58)).heap.size := by simp
      clear A1 hba HCw HB H0 H1 HO c1'
      generalize wa.alloc (.cells #[.int .i64 fk, .int .i64 fs, .int .i64 fd, .int .i64 fq, .int .i64 fl, .bool fm, .bool fc, .string fx] 58) = wf at *
      generalize wa.heap.size = b at *
      clear hsz
      have n0 : ¬ w.heap.size = w.heap.size + 1 := by omega
      have n1 : ¬ w.heap.size + 1 = w.heap.size := by omega
      have n2 : ¬ b = w.heap.size + 1 := by omega
      have n3 : ¬ w.heap.size + 1 = b := by omega
      have n4 : ¬ b = w.heap.size := by omega
      have n5 : ¬ w.heap.size = b := by omega
      have hz : w.heap.size < wf.heap.size := by omega
      have hz1' : w.heap.size + 1 < wf.heap.size := by omega
      by_cases hE : E = 0
      case neg =>
        have e9 : rs = (zp, E) := by
          rw [← HRS.out]
          exact readPc_err (HNO.out hE) hE
        subst e9
        have Z0 := F0.free 0
        have Z1 := F0.free 1
        have Z2 := F0.free 2
        have Z3 := F0.free 3
        have Y0 := F0.cell 0
        have Y1 := F0.cell 1
        have Y2 := F0.cell 2
        have Y3 := F0.cell 3
        simp at Y0 Y1 Y2 Y3
        have GB : Hid (Below w.heap.size w wf) := FB
        clear FB F0 F1 FF FO
        go_wp2
        refine bodyPost_ret (v := .tuple #[pcv 0 false (.slice none 0 0) ByteArray.empty, .int .i64 E]) (by simp [results, Try.results22, go_sem, Y0, Y1, Y2, Y3]; try rfl) rfl ⟨none, ⟨0, rfl⟩, fun j u hj => by simp [pc] at hj, below_four GB.out (Nat.le_refl _) _ _ _ _⟩
      have HS3 : Hid (∀ j, j < k + 1 → (readR (l.getD j 0)).2 = 0) := HS2.out hE
      have fx6 : fx.size ≤ 6 := HXF.out hE
      subst hE
      clear HS2 HNO HXF
      have sx : (P.x ++ fx).size ≤ 9223372036854775807 := by rw [ByteArray.size_append]; omega
      have sx2 : P.x.size + fx.size ≤ 9223372036854775807 := by omega
      have C0 := FF.cell 0
      have C1 := FF.cell 1
      have C2 := FF.cell 2
      have C3 := FF.cell 3
      have C6 := FF.cell 6
      have C7 := FF.cell 7
      have Y0 := F1.cell 0
      have Y1 := F1.cell 1
      have Y2 := F1.cell 2
      have Y3 := F1.cell 3
      have Z0 := F1.free 0
      have Z1 := F1.free 1
      have Z2 := F1.free 2
      have Z3 := F1.free 3
      simp at C0 C1 C2 C3 C6 C7 Y0 Y1 Y2 Y3
      have F0' : Hid (Bk wf w.heap.size (pcc 0 false (.slice none 0 0) ByteArray.empty) 24) := F0
      have F1' : Hid (Bk wf (w.heap.size + 1) (pcc P.s P.c v P.x) 24) := F1
      have FF' : Hid (Bk wf b #[.int .i64 fk, .int .i64 fs, .int .i64 fd, .int .i64 fq, .int .i64 fl, .bool fm, .bool fc, .string fx] 58) := FF
      have FO' : Hid (OwnK 63 2 wf (w.heap.size + 2) v P.hs.length (pc P.hs)) := FO
      have FB' : Hid (Below w.heap.size w wf) := FB
      clear F0 F1 FF FO FB
      obtain ⟨Ps, Pcc, Phs, Px⟩ := P
      simp only at *
      by_cases h1 : fk = 1
      · subst h1
        have HP3 : Hid (pk l (k + 1) = ⟨fs, fc, Phs ++ [(fd, fq)], Px ++ fx⟩) := by
          rw [HP2.out]
          exact add_one _ _ _ _ _ _ _ _
        clear HP2
        have own : OwnK 63 2 ((wf.setCell ⟨w.heap.size + 1, 0, none⟩ (.int .i64 fs)).setCell ⟨w.heap.size + 1, 1, none⟩ (.bool fc)) (w.heap.size + 2) v Phs.length (pc Phs) := (FO'.out.far (by omega)).far (by omega)
        have hbX : w.heap.size + 2 ≤ ((wf.setCell ⟨w.heap.size + 1, 0, none⟩ (.int .i64 fs)).setCell ⟨w.heap.size + 1, 1, none⟩ (.bool fc)).heap.size := by simp; omega
        have AX : Below ((wf.setCell ⟨w.heap.size + 1, 0, none⟩ (.int .i64 fs)).setCell ⟨w.heap.size + 1, 1, none⟩ (.bool fc)).heap.size ((wf.setCell ⟨w.heap.size + 1, 0, none⟩ (.int .i64 fs)).setCell ⟨w.heap.size + 1, 1, none⟩ (.bool fc)) (((wf.setCell ⟨w.heap.size + 1, 0, none⟩ (.int .i64 fs)).setCell ⟨w.heap.size + 1, 1, none⟩ (.bool fc)).alloc (.cells #[.int .i64 fd, .int .i64 fq] 63)) := (Below.refl _ _).alloc (Nat.le_refl _) _
        have ownA := own.below AX
        have G0p : Bk (((wf.setCell ⟨w.heap.size + 1, 0, none⟩ (.int .i64 fs)).setCell ⟨w.heap.size + 1, 1, none⟩ (.bool fc)).alloc (.cells #[.int .i64 fd, .int .i64 fq] 63)) w.heap.size (pcc 0 false (.slice none 0 0) ByteArray.empty) 24 := ((F0'.out.far n0).far n0).alloc _
        have G1p : Bk (((wf.setCell ⟨w.heap.size + 1, 0, none⟩ (.int .i64 fs)).setCell ⟨w.heap.size + 1, 1, none⟩ (.bool fc)).alloc (.cells #[.int .i64 fd, .int .i64 fq] 63)) (w.heap.size + 1) (pcc fs fc v Px) 24 := by
          have := ((F1'.out.set 0 (.int .i64 fs)).set 1 (.bool fc)).alloc (.cells #[.int .i64 fd, .int .i64 fq] 63)
          simpa using this
        have GFp : Bk (((wf.setCell ⟨w.heap.size + 1, 0, none⟩ (.int .i64 fs)).setCell ⟨w.heap.size + 1, 1, none⟩ (.bool fc)).alloc (.cells #[.int .i64 fd, .int .i64 fq] 63)) b #[.int .i64 1, .int .i64 fs, .int .i64 fd, .int .i64 fq, .int .i64 fl, .bool fm, .bool fc, .string fx] 58 := ((FF'.out.far n2).far n2).alloc _
        have GBp : Below w.heap.size w (((wf.setCell ⟨w.heap.size + 1, 0, none⟩ (.int .i64 fs)).setCell ⟨w.heap.size + 1, 1, none⟩ (.bool fc)).alloc (.cells #[.int .i64 fd, .int .i64 fq] 63)) := ((FB'.out.setCell (by simp) _).setCell (by simp) _).trans (AX.mono (by omega))
        have hX9 : ((wf.setCell ⟨w.heap.size + 1, 0, none⟩ (.int .i64 fs)).setCell ⟨w.heap.size + 1, 1, none⟩ (.bool fc)).heap.size = wf.heap.size := by simp
        have hlP : Phs.length ≤ 1000000 := by omega
        have m0 : v.ownBlock ≠ some w.heap.size := ownA.ne G0p (by decide)
        have m1 : v.ownBlock ≠ some (w.heap.size + 1) := ownA.ne G1p (by decide)
        have mF : v.ownBlock ≠ some b := ownA.ne GFp (by decide)
        have nl : ∀ r, v.ownBlock = some r → w.heap.size ≤ r := fun r hr => Nat.le_trans (by omega) (ownA.lt hr).1
        have hbA : w.heap.size + 2 ≤ (((wf.setCell ⟨w.heap.size + 1, 0, none⟩ (.int .i64 fs)).setCell ⟨w.heap.size + 1, 1, none⟩ (.bool fc)).alloc (.cells #[.int .i64 fd, .int .i64 fq] 63)).heap.size := Nat.le_trans hbX AX.size
        have G0h : Hid (Bk (((wf.setCell ⟨w.heap.size + 1, 0, none⟩ (.int .i64 fs)).setCell ⟨w.heap.size + 1, 1, none⟩ (.bool fc)).alloc (.cells #[.int .i64 fd, .int .i64 fq] 63)) w.heap.size (pcc 0 false (.slice none 0 0) ByteArray.empty) 24) := G0p
        have G1h : Hid (Bk (((wf.setCell ⟨w.heap.size + 1, 0, none⟩ (.int .i64 fs)).setCell ⟨w.heap.size + 1, 1, none⟩ (.bool fc)).alloc (.cells #[.int .i64 fd, .int .i64 fq] 63)) (w.heap.size + 1) (pcc fs fc v Px) 24) := G1p
        have GFh : Hid (Bk (((wf.setCell ⟨w.heap.size + 1, 0, none⟩ (.int .i64 fs)).setCell ⟨w.heap.size + 1, 1, none⟩ (.bool fc)).alloc (.cells #[.int .i64 fd, .int .i64 fq] 63)) b #[.int .i64 1, .int .i64 fs, .int .i64 fd, .int .i64 fq, .int .i64 fl, .bool fm, .bool fc, .string fx] 58) := GFp
        have GBh : Hid (Below w.heap.size w (((wf.setCell ⟨w.heap.size + 1, 0, none⟩ (.int .i64 fs)).setCell ⟨w.heap.size + 1, 1, none⟩ (.bool fc)).alloc (.cells #[.int .i64 fd, .int .i64 fq] 63))) := GBp
        clear G0p G1p GFp GBp ownA AX
        go_wp2_with (at_builtin; go_loud (refine wpList_app_two rfl (.tmp 39) (.tmp 45) 22 63 i0 (.agg #[.int .i64 0, .int .i64 0]) 16 rfl Try.underlying22 ki hz0 hz1 hz2 rfl (by decide) (w.heap.size + 2) _ v Phs.length (pc Phs) fd fq rfl own (by rw [hX9]; rfl) hlP hbX ?_; intro v1' wb ow gw; obtain ⟨ra, za, rfl, -, -, -⟩ := ow.rd (by decide); have G0 := G0h.out.kept gw m0; have G1 := G1h.out.kept gw m1; have GF := GFh.out.kept gw mF; have GB := Below.grown GBh.out gw (by omega) nl; have GS := Nat.le_trans hbA gw.size; have D2 := G1.cell 2; have D3 := G1.cell 3; have D7 := GF.cell 7; have U2 := G1.free 2; have U3 := G1.free 3; have G0' : Hid (Bk wb w.heap.size (pcc 0 false (.slice none 0 0) ByteArray.empty) 24) := G0; have G1' : Hid (Bk wb (w.heap.size + 1) (pcc fs fc v Px) 24) := G1; have GB' : Hid (Below w.heap.size w wb) := GB; have OW' : Hid (OwnK 63 2 wb (w.heap.size + 2) (.slice ra (Phs.length + 1) za) (Phs.length + 1) (pc Phs ++ [.int .i64 fd, .int .i64 fq])) := ow; clear G0 G1 GF GB gw ow own; simp at D2 D3 D7))
        have X0 : Bk ((wb.setCell ⟨w.heap.size + 1, 2, none⟩ (.slice ra (Phs.length + 1) za)).setCell ⟨w.heap.size + 1, 3, none⟩ (.string (Px ++ fx))) w.heap.size (pcc 0 false (.slice none 0 0) ByteArray.empty) 24 := (G0'.out.far n0).far n0
        have X1 : Bk ((wb.setCell ⟨w.heap.size + 1, 2, none⟩ (.slice ra (Phs.length + 1) za)).setCell ⟨w.heap.size + 1, 3, none⟩ (.string (Px ++ fx))) (w.heap.size + 1) (pcc fs fc (.slice ra (Phs.length + 1) za) (Px ++ fx)) 24 := by
          have := (G1'.out.set 2 (.slice ra (Phs.length + 1) za)).set 3 (.string (Px ++ fx))
          simpa using this
        have XO : OwnK 63 2 ((wb.setCell ⟨w.heap.size + 1, 2, none⟩ (.slice ra (Phs.length + 1) za)).setCell ⟨w.heap.size + 1, 3, none⟩ (.string (Px ++ fx))) (w.heap.size + 2) (.slice ra (Phs.length + 1) za) (Phs ++ [(fd, fq)]).length (pc (Phs ++ [(fd, fq)])) := by
          rw [← pc_snoc, List.length_append]
          exact (OW'.out.far (by omega)).far (by omega)
        have XB : Below w.heap.size w ((wb.setCell ⟨w.heap.size + 1, 2, none⟩ (.slice ra (Phs.length + 1) za)).setCell ⟨w.heap.size + 1, 3, none⟩ (.string (Px ++ fx))) := (GB'.out.setCell (by simp) _).setCell (by simp) _
        have XS : w.heap.size + 2 ≤ ((wb.setCell ⟨w.heap.size + 1, 2, none⟩ (.slice ra (Phs.length + 1) za)).setCell ⟨w.heap.size + 1, 3, none⟩ (.string (Px ++ fx))).heap.size := by simp; omega
        go_roundw
        case rel => exact ⟨k + 1, .slice ra (Phs.length + 1) za, ⟨fs, fc, Phs ++ [(fd, fq)], Px ++ fx⟩, by omega, by go_num, HP3.out.symm, HS3.out, X0, X1, XO, XB, XS⟩
        case measure => simp [RowKit.intOf]; omega
      · have HP3 : Hid (pk l (k + 1) = ⟨Ps, Pcc, Phs, Px ++ fx⟩) := by
          rw [HP2.out]
          exact add_other _ h1 _ _ _ _ _ _ _
        clear HP2
        go_wp2
        have X0 : Bk (wf.setCell ⟨w.heap.size + 1, 3, none⟩ (.string (Px ++ fx))) w.heap.size (pcc 0 false (.slice none 0 0) ByteArray.empty) 24 := F0'.out.far n0
        have X1 : Bk (wf.setCell ⟨w.heap.size + 1, 3, none⟩ (.string (Px ++ fx))) (w.heap.size + 1) (pcc Ps Pcc v (Px ++ fx)) 24 := by
          have := F1'.out.set 3 (.string (Px ++ fx))
          simpa using this
        have XO : OwnK 63 2 (wf.setCell ⟨w.heap.size + 1, 3, none⟩ (.string (Px ++ fx))) (w.heap.size + 2) v Phs.length (pc Phs) := FO'.out.far (by omega)
        have XB : Below w.heap.size w (wf.setCell ⟨w.heap.size + 1, 3, none⟩ (.string (Px ++ fx))) := FB'.out.setCell (by simp) _
        have XS : w.heap.size + 2 ≤ (wf.setCell ⟨w.heap.size + 1, 3, none⟩ (.string (Px ++ fx))).heap.size := by simp; omega
        go_roundw
        case rel => exact ⟨k + 1, v, ⟨Ps, Pcc, Phs, Px ++ fx⟩, by omega, by go_num, HP3.out.symm, HS3.out, X0, X1, XO, XB, XS⟩
        case measure => simp [RowKit.intOf]; omega
    · obtain rfl : k = n := by omega
      have e1 : ¬ (k : Int) < (k : Int) := by omega
      have HALL : Hid (∀ j, j < l.length → (readR (l.getD j 0)).2 = 0) := show _ from fun j hj => HS.out j (by rw [HN.out] at hj; exact hj)
      have HPK : Hid (pk l l.length = P) := by rw [HN.out]; exact HP.out.symm
      obtain ⟨ra, za, rfl, hcz, _, rd⟩ := HO.out.rd (by decide)
      have HCW := rwords_any P.s P.c ra za P.x P.hs wr (by omega) (by unfold maxLen; omega) rd
      obtain ⟨⟨ws, er⟩, hwr⟩ : ∃ r, P.wordsR = r := ⟨_, rfl⟩
      have HWR : Hid (P.wordsR = (ws, er)) := hwr
      rw [show (⟨P.s, P.c, P.hs, P.x⟩ : Pc) = P from rfl, hwr] at HCW
      simp only [pcv, pcc] at HCW
      have HCZ : Hid (P.hs.length ≤ za) := hcz
      have Y0 := H1.out.cell 0
      have Y1 := H1.out.cell 1
      have Y2 := H1.out.cell 2
      have Y3 := H1.out.cell 3
      simp at Y0 Y1 Y2 Y3
      clear rd hwr hcz HP HS HC HW
      go_upto_region 14 with (go_at_call 11; (with_reducible refine HCW.mono ?_); rintro e w3 ⟨a3, cap3, rfl, hc3, rd3, hb3⟩)
      clear Y0 Y1 Y2 Y3
      have F0 := H0.out.next hb3
      have F1 := H1.out.next hb3
      have FO := HO.out.below hb3
      have FB := HB.out.trans (hb3.mono HB.out.size)
      have hz : w.heap.size < w3.heap.size := by have := hb3.size; omega
      have hz1' : w.heap.size + 1 < w3.heap.size := by have := hb3.size; omega
      have H0' : Hid (Bk w3 w.heap.size (pcc 0 false (.slice none 0 0) ByteArray.empty) 24) := F0
      have H1' : Hid (Bk w3 (w.heap.size + 1) (pcc P.s P.c (.slice ra P.hs.length za) P.x) 24) := F1
      have HO' : Hid (OwnK 63 2 w3 (w.heap.size + 2) (.slice ra P.hs.length za) P.hs.length (pc P.hs)) := FO
      have HB' : Hid (Below w.heap.size w w3) := FB
      have R3 : Hid (Rd w3 a3 (vw ws)) := rd3
      have HC3 : Hid (ws.length ≤ cap3) := hc3
      have Z0 := F0.free 0
      have Z1 := F0.free 1
      have Z2 := F0.free 2
      have Z3 := F0.free 3
      have Y0 := F0.cell 0
      have Y1 := F0.cell 1
      have Y2 := F0.cell 2
      have Y3 := F0.cell 3
      simp at Y0 Y1 Y2 Y3
      clear F0 F1 FO FB rd3 hb3 HO H0 H1 HB HCW hc3
      by_cases her : er = 0
      case neg =>
        have e9 : rs = (zp, 2) := by
          rw [← HRS.out]
          exact readPc_bad HALL.out (by rw [HPK.out, HWR.out]; exact fun h => her (Prod.mk.inj h).2)
        subst e9
        clear HWR HRS
        go_wp2
        refine bodyPost_ret (v := .tuple #[pcv 0 false (.slice none 0 0) ByteArray.empty, .int .i64 2]) (by simp [results, Try.results22, go_sem, Y0, Y1, Y2, Y3]; try rfl) rfl ⟨none, ⟨0, rfl⟩, fun j u hj => by simp [pc] at hj, below_four HB'.out (Nat.le_refl _) _ _ _ _⟩
      subst her
      by_cases hlen : ws.length = k
      case neg =>
        have hlz : ¬ (ws.length : Int) = (k : Int) := by omega
        have e9 : rs = (zp, 2) := by
          rw [← HRS.out]
          exact readPc_bad HALL.out (by rw [HPK.out, HWR.out]; exact fun h => hlen (by rw [(Prod.mk.inj h).1, HN.out]))
        subst e9
        clear HWR HRS
        go_wp2
        refine bodyPost_ret (v := .tuple #[pcv 0 false (.slice none 0 0) ByteArray.empty, .int .i64 2]) (by simp [results, Try.results22, go_sem, Y0, Y1, Y2, Y3]; try rfl) rfl ⟨none, ⟨0, rfl⟩, fun j u hj => by simp [pc] at hj, below_four HB'.out (Nat.le_refl _) _ _ _ _⟩
      have HLN : Hid (ws.length = k) := hlen
      rw [hlen]
      clear hlen
      go_wp2_with fail
      clear Y0 Y1 Y2 Y3
      go_loopw [10] (fun i wr => ∃ j u : Nat, j ≤ k ∧ i = .int .i64 j ∧ (∀ t, t < j → l.getD t 0 = ws.getD t 0) ∧ wr = w3.drewN u) (fun i _ => k - (RowKit.intOf i).toNat)
      case atStart => exact ⟨0, 0, Nat.zero_le _, rfl, fun t ht => absurd ht (Nat.not_lt_zero _), rfl⟩
      case round =>
      obtain ⟨j, u, hj, rfl, hs1, rfl⟩ := hrel
      have HS4 : Hid (∀ t, t < j → l.getD t 0 = ws.getD t 0) := hs1
      clear hs1
      by_cases hjk : j < k
      · have f1 : (j : Int) < (k : Int) := by omega
        have f0 : (0 : Int) ≤ (j : Int) := by omega
        obtain ⟨g, o, ea, hg, c1⟩ := HR.out j _ (vw_at (l := l) (k := j) (by rw [HN.out]; exact hjk))
        obtain ⟨g', o', eb, hg', c2⟩ := R3.out j _ (vw_at (l := ws) (k := j) (by rw [HLN.out]; exact hjk))
        replace c1 := (HB'.out.cell (p := ⟨g, o + j, none⟩) hg).trans c1
        by_cases hpq : l.getD j 0 = ws.getD j 0
        · have HP5 : Hid (∀ t, t < j + 1 → l.getD t 0 = ws.getD t 0) := show _ from fun t ht => by
            rcases Nat.lt_or_ge t j with h | h
            · exact HS4.out t h
            · obtain rfl : t = j := by omega
              exact hpq
          rw [← hpq] at c2
          clear hpq hg hg'
          obtain ⟨z, hz9⟩ : ∃ z, l.getD j 0 = z := ⟨_, rfl⟩
          rw [hz9] at c1 c2
          clear hz9
          subst ea eb
          go_wp2_with fail
          go_quiet (fail)
          go_wp2
          go_roundw
          case rel => exact ⟨j + 1, _, by omega, by go_num, HP5.out, by first | rfl | exact World.drewN_drewN _ _ _⟩
          case measure => simp [RowKit.intOf]; omega
        · have hpz : ¬ ((l.getD j 0 : Nat) : Int) = ((ws.getD j 0 : Nat) : Int) := by omega
          have e9 : rs = (zp, 2) := by
            rw [← HRS.out]
            exact readPc_bad HALL.out (by rw [HPK.out, HWR.out]; exact fun h => hpq (by rw [(Prod.mk.inj h).1]))
          subst e9
          clear HWR HRS hpq hg hg'
          obtain ⟨z, hz9⟩ : ∃ z, l.getD j 0 = z := ⟨_, rfl⟩
          obtain ⟨z', hz8⟩ : ∃ z, ws.getD j 0 = z := ⟨_, rfl⟩
          rw [hz9] at c1 hpz
          rw [hz8] at c2 hpz
          clear hz9 hz8
          subst ea eb
          have Y0 := H0'.out.cell 0
          have Y1 := H0'.out.cell 1
          have Y2 := H0'.out.cell 2
          have Y3 := H0'.out.cell 3
          simp at Y0 Y1 Y2 Y3
          go_wp2_with fail
          go_quiet (fail)
          go_wp2
          refine bodyPost_ret (v := .tuple #[pcv 0 false (.slice none 0 0) ByteArray.empty, .int .i64 2]) (by simp [results, Try.results22, go_sem, Y0, Y1, Y2, Y3]; try rfl) rfl ⟨none, ⟨0, rfl⟩, fun j u hj => by simp [pc] at hj, below_four (by first | exact dn (dn HB'.out _) _ | exact dn HB'.out _) (Nat.le_refl _) _ _ _ _⟩
      · obtain rfl : j = k := by omega
        have f1 : ¬ (j : Int) < (j : Int) := by omega
        have e9 : rs = (P, 0) := by
          rw [← HRS.out, readPc_good HALL.out (by rw [HPK.out, HWR.out, same_upto (l := l) (m := ws) (by rw [HN.out, HLN.out]) fun t ht => HS4.out t (by rw [HN.out] at ht; exact ht)]), HPK.out]
        subst e9
        clear HWR HRS
        have Y0 := H0'.out.cell 0
        have Y1 := H0'.out.cell 1
        have Y2 := H0'.out.cell 2
        have Y3 := H0'.out.cell 3
        have D0 := H1'.out.cell 0
        have D1 := H1'.out.cell 1
        have D2 := H1'.out.cell 2
        have D3 := H1'.out.cell 3
        simp at Y0 Y1 Y2 Y3 D0 D1 D2 D3
        go_wp2
        refine bodyPost_ret (v := .tuple #[pcv P.s P.c (.slice ra P.hs.length za) P.x, .int .i64 0]) (by simp [results, Try.results22, go_sem, Y0, Y1, Y2, Y3]) rfl ⟨ra, za, rfl, HCZ.out, ?_, below_four (dn HB'.out u) (Nat.le_refl _) _ _ _ _⟩
        have own : OwnK 63 2 _ (w.heap.size + 2) (.slice ra P.hs.length za) P.hs.length (pc P.hs) := ((((HO'.out.below (dn (Below.refl _ _) u)).far (b := w.heap.size) (j := 0) (x := .int .i64 P.s) (by omega)).far (b := w.heap.size) (j := 1) (x := .bool P.c) (by omega)).far (b := w.heap.size) (j := 2) (x := .slice ra P.hs.length za) (by omega)).far (b := w.heap.size) (j := 3) (x := .string P.x) (by omega)
        obtain ⟨a', c', e', _, _, rd⟩ := own.rd (by decide)
        simp only [Value.slice.injEq] at e'
        obtain ⟨rfl, _, _⟩ := e'
        exact rd
end Go.Proofs.Ytnhfoojnokiboaa
