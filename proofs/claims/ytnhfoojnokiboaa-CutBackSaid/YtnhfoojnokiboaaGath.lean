/-
  The walk of gather: what stands in words, whatever their row.
-/
import Derived.Test.YtnhfoojnokiboaaAppK
import Derived.Test.YtnhfoojnokiboaaBack
import Derived.Test.YtnhfoojnokiboaaRead
namespace Go.Proofs.Ytnhfoojnokiboaa
open Go.RowKit Go.Lib

/-- What stands in words, whatever their row. -/
def gathR (l : List Nat) : Pc × Int := if errR l ≠ 0 then (zp, errR l) else (pk l l.length, 0)
theorem gathR_err {l : List Nat} {e : Int} (h : errR l = e) (h2 : ¬ e = 0) : gathR l = (zp, e) := by
  subst h
  unfold gathR
  exact if_pos h2
theorem gathR_ok {l : List Nat} (h : errR l = 0) : gathR l = (pk l l.length, 0) := by
  unfold gathR
  exact if_neg (by rw [h]; simp)

set_option maxRecDepth 100000 in
set_option maxHeartbeats 16000000 in
theorem gath_any (l : List Nat) (a : Option Addr) (cap : Nat) (w : World) (hl : l.length ≤ 1000000) (hW : ∀ x ∈ l, x < 18446744073709551616) (hr : Rd w a (vw l)) :
    Calls Try.prog 33 #[.slice a l.length cap] w fun e w' => ∃ a' cap', e = .returned (.tuple #[pcv (gathR l).1.s (gathR l).1.c (.slice a' (gathR l).1.hs.length cap') (gathR l).1.x, .int .i64 (gathR l).2]) ∧ (gathR l).1.hs.length ≤ cap' ∧ Rd w' a' (pc (gathR l).1.hs) ∧ Below w.heap.size w w' := by
  obtain ⟨i0, ki, hz0, hz1, hz2⟩ := info_parts Try.info55
  obtain ⟨i5, k5, y0, y1, y2⟩ := info_parts Try.info5
  have HR : Hid (Rd w a (vw l)) := hr
  obtain ⟨rs, hrs⟩ : ∃ rs, gathR l = rs := ⟨_, rfl⟩
  have HRS : Hid (gathR l = rs) := hrs
  rw [hrs]
  obtain ⟨n, hn⟩ : ∃ n, l.length = n := ⟨_, rfl⟩
  have HN : Hid (l.length = n) := hn
  have HC : Hid (∀ k, k < n → ∀ w, Calls Try.prog 24 #[.int .u64 ((l.getD k 0 : Nat) : Int)] w fun e w' => e = .returned (.tuple #[flv (readR (l.getD k 0)).1, .int .i64 (readR (l.getD k 0)).2]) ∧ Below w.heap.size w w') := show _ from fun k hk w => fread_any _ (hW _ (by
    rw [List.getD_eq_getElem?_getD, List.getElem?_eq_getElem (by omega)]
    exact List.getElem_mem _)) w
  rw [hn] at hl ⊢
  clear hr hW hrs hn
  go_enter Try.func33, Try.ntmps33
  go_wp2_with fail
  have B0 := two_blocks w (pcc 0 false (.slice none 0 0) ByteArray.empty) (pcc 0 false (.slice none 0 0) ByteArray.empty) 28 28
  go_loopw [5, 12] (fun d i wr => ∃ (k : Nat) (v : Value) (P : Pc), k ≤ n ∧ i = .int .i64 k ∧ P = pk l k ∧ (∀ j, j < k → (readR (l.getD j 0)).2 = 0) ∧ Bk wr w.heap.size (pcc 0 false (.slice none 0 0) ByteArray.empty) 28 ∧ Bk wr (w.heap.size + 1) (pcc P.s P.c v ByteArray.empty) 28 ∧ OwnK 55 2 wr (w.heap.size + 2) v P.hs.length (pc P.hs) ∧ OwnK 5 1 wr (w.heap.size + 2) d P.x.size (strCells P.x) ∧ Below w.heap.size w wr ∧ w.heap.size + 2 ≤ wr.heap.size) (fun _ i _ => n - (RowKit.intOf i).toNat)
  case atStart => exact ⟨0, .slice none 0 0, zp, Nat.zero_le _, rfl, (pk_zero l).symm, fun j hj => absurd hj (Nat.not_lt_zero _), B0.out.1, B0.out.2.1, OwnK.nil _ _ _ _, OwnK.nil _ _ _ _, B0.out.2.2.1, by have := B0.out.2.2.2; simp at this ⊢⟩
  case round =>
    obtain ⟨k, v, P, hk, rfl, hP, hs0, h0, h1, own, od, hb, hsz⟩ := hrel
    obtain ⟨d, rfl⟩ : ∃ d, d = u5 := ⟨_, rfl⟩
    have hsm := pk_small (l := l) k (by rw [HN.out]; exact hk) hs0
    rw [← hP] at hsm
    obtain ⟨sm1, sm2⟩ := hsm
    have HS : Hid (∀ j, j < k → (readR (l.getD j 0)).2 = 0) := hs0
    have HP : Hid (P = pk l k) := hP
    have HB : Hid (Below w.heap.size w wr) := hb
    have H0 : Hid (Bk wr w.heap.size (pcc 0 false (.slice none 0 0) ByteArray.empty) 28) := h0
    have H1 : Hid (Bk wr (w.heap.size + 1) (pcc P.s P.c v ByteArray.empty) 28) := h1
    have HO : Hid (OwnK 55 2 wr (w.heap.size + 2) v P.hs.length (pc P.hs)) := own
    have HD : Hid (OwnK 5 1 wr (w.heap.size + 2) d P.x.size (strCells P.x)) := od
    clear hP hs0 h0 h1 own od hb B0
    by_cases hlt : k < n
    · have e1 : (k : Int) < (n : Int) := by omega
      have e2 : (0 : Int) ≤ (k : Int) := by omega
      obtain ⟨g, o, ea, hg, c1⟩ := HR.out k _ (vw_at (l := l) (k := k) (by rw [HN.out]; exact hlt))
      subst ea
      have HCk := HC.out k hlt wr
      have HNO : Hid ((readR (l.getD k 0)).2 ≠ 0 → errR l = (readR (l.getD k 0)).2) := errR_no l k (by rw [HN.out]; exact hlt) HS.out
      have HS2 : Hid ((readR (l.getD k 0)).2 = 0 → ∀ j, j < k + 1 → (readR (l.getD j 0)).2 = 0) := show _ from fun h j hj => by
        rcases Nat.lt_or_ge j k with h' | h'
        · exact HS.out j h'
        · obtain rfl : j = k := by omega
          exact h
      have HP2 : Hid (pk l (k + 1) = P.add (readR (l.getD k 0)).1) := by
        rw [HP.out]
        exact pk_succ (by rw [HN.out]; exact hlt)
      have c1' : wr.cell? ⟨g, o + k, none⟩ = some (.int .u64 ((l.getD k 0 : Nat) : Int)) := (HB.out.cell (p := ⟨g, o + k, none⟩) hg).trans c1
      have HXF : Hid ((readR (l.getD k 0)).2 = 0 → (readR (l.getD k 0)).1.x.size ≤ 6) := show _ from fun h => by
        obtain ⟨_, hr⟩ := readR_ok h
        rcases right_forms hr with ⟨_, _, _, _, _, _, _, _, _, hx⟩ | ⟨h2, _, _, _, _, _, _, h3⟩
        · rw [hx]; decide
        · exact h3
      clear c1 HS HC
      obtain ⟨F, hF⟩ : ∃ F, (readR (l.getD k 0)).1 = F := ⟨_, rfl⟩
      obtain ⟨E, hEE⟩ : ∃ E, (readR (l.getD k 0)).2 = E := ⟨_, rfl⟩
      obtain ⟨W, hWW⟩ : ∃ W, l.getD k 0 = W := ⟨_, rfl⟩
      rw [hF, hEE] at HXF
      rw [hF] at HP2
      rw [hEE] at HNO HS2
      rw [hF, hEE, hWW] at HCk
      rw [hWW] at c1'
      clear hF hEE hWW
      obtain ⟨fk, fs, fd, fq, fl, fm, fc, fx⟩ := F
      simp only [flv, flc] at HCk
      simp only at HXF
      go_upto_region 7 with (go_at_call 24; (with_reducible refine HCk.mono ?_); rintro e wa ⟨rfl, hba⟩)
      have A1 : Below wa.heap.size wa (wa.alloc (.cells #[.int .i64 fk, .int .i64 fs, .int .i64 fd, .int .i64 fq, .int .i64 fl, .bool fm, .bool fc, .string fx] 58)) := (Below.refl _ _).alloc (Nat.le_refl _) _
      have F0 : Bk (wa.alloc (.cells #[.int .i64 fk, .int .i64 fs, .int .i64 fd, .int .i64 fq, .int .i64 fl, .bool fm, .bool fc, .string fx] 58)) w.heap.size (pcc 0 false (.slice none 0 0) ByteArray.empty) 28 := (H0.out.next hba).alloc _
      have F1 : Bk (wa.alloc (.cells #[.int .i64 fk, .int .i64 fs, .int .i64 fd, .int .i64 fq, .int .i64 fl, .bool fm, .bool fc, .string fx] 58)) (w.heap.size + 1) (pcc P.s P.c v ByteArray.empty) 28 := (H1.out.next hba).alloc _
      have FF : Bk (wa.alloc (.cells #[.int .i64 fk, .int .i64 fs, .int .i64 fd, .int .i64 fq, .int .i64 fl, .bool fm, .bool fc, .string fx] 58)) wa.heap.size #[.int .i64 fk, .int .i64 fs, .int .i64 fd, .int .i64 fq, .int .i64 fl, .bool fm, .bool fc, .string fx] 58 := Bk.new _ _ _
      have FO : OwnK 55 2 (wa.alloc (.cells #[.int .i64 fk, .int .i64 fs, .int .i64 fd, .int .i64 fq, .int .i64 fl, .bool fm, .bool fc, .string fx] 58)) (w.heap.size + 2) v P.hs.length (pc P.hs) := (HO.out.below hba).below A1
      have FD : OwnK 5 1 (wa.alloc (.cells #[.int .i64 fk, .int .i64 fs, .int .i64 fd, .int .i64 fq, .int .i64 fl, .bool fm, .bool fc, .string fx] 58)) (w.heap.size + 2) d P.x.size (strCells P.x) := (HD.out.below hba).below A1
      have FB : Below w.heap.size w (wa.alloc (.cells #[.int .i64 fk, .int .i64 fs, .int .i64 fd, .int .i64 fq, .int .i64 fl, .bool fm, .bool fc, .string fx] 58)) := (HB.out.trans (hba.mono HB.out.size)).trans (A1.mono (Nat.le_trans HB.out.size hba.size))
      have fb : w.heap.size + 2 ≤ wa.heap.size := Nat.le_trans hsz hba.size
      have fz : wa.heap.size < (wa.alloc (.cells #[.int .i64 fk, .int .i64 fs, .int .i64 fd, .int .i64 fq, .int .i64 fl, .bool fm, .bool fc, .string fx] 58)).heap.size := by simp
      clear A1 hba HCk HB H0 H1 HO HD c1'
      generalize wa.alloc (.cells #[.int .i64 fk, .int .i64 fs, .int .i64 fd, .int .i64 fq, .int .i64 fl, .bool fm, .bool fc, .string fx] 58) = wf at *
      generalize wa.heap.size = b at *
      clear hsz
      have n0 : ¬ w.heap.size = w.heap.size + 1 := by omega
      have n1 : ¬ w.heap.size + 1 = w.heap.size := by omega
      have n2 : ¬ b = w.heap.size + 1 := by omega
      have n3 : ¬ w.heap.size + 1 = b := by omega
      have n4 : ¬ b = w.heap.size := by omega
      have n5 : ¬ w.heap.size = b := by omega
      have hz : w.heap.size < wf.heap.size := by omega
      have hz1' : w.heap.size + 1 < wf.heap.size := by omega
      by_cases hE : E = 0
      case neg =>
        have e9 : rs = (zp, E) := by
          rw [← HRS.out]
          exact gathR_err (HNO.out hE) hE
        subst e9
        have Z0 := F0.free 0
        have Z1 := F0.free 1
        have Z2 := F0.free 2
        have Z3 := F0.free 3
        have Y0 := F0.cell 0
        have Y1 := F0.cell 1
        have Y2 := F0.cell 2
        have Y3 := F0.cell 3
        simp at Y0 Y1 Y2 Y3
        have GB : Hid (Below w.heap.size w wf) := FB
        clear FB F0 F1 FF FO FD
        go_wp2
        refine bodyPost_ret (v := .tuple #[pcv 0 false (.slice none 0 0) ByteArray.empty, .int .i64 E]) (by simp [results, Try.results33, go_sem, Y0, Y1, Y2, Y3]; try rfl) rfl ⟨none, ⟨0, rfl⟩, fun j u hj => by simp [pc] at hj, below_four GB.out (Nat.le_refl _) _ _ _ _⟩
      have HS3 : Hid (∀ j, j < k + 1 → (readR (l.getD j 0)).2 = 0) := HS2.out hE
      have fx6 : fx.size ≤ 6 := HXF.out hE
      subst hE
      clear HS2 HNO HXF
      have F0' : Hid (Bk wf w.heap.size (pcc 0 false (.slice none 0 0) ByteArray.empty) 28) := F0
      have F1' : Hid (Bk wf (w.heap.size + 1) (pcc P.s P.c v ByteArray.empty) 28) := F1
      have FF' : Hid (Bk wf b #[.int .i64 fk, .int .i64 fs, .int .i64 fd, .int .i64 fq, .int .i64 fl, .bool fm, .bool fc, .string fx] 58) := FF
      have FO' : Hid (OwnK 55 2 wf (w.heap.size + 2) v P.hs.length (pc P.hs)) := FO
      have FD' : Hid (OwnK 5 1 wf (w.heap.size + 2) d P.x.size (strCells P.x)) := FD
      have FB' : Hid (Below w.heap.size w wf) := FB
      clear F0 F1 FF FO FD FB
      obtain ⟨Ps, Pcc, Phs, Px⟩ := P
      simp only at *
      have hxx : Px.size + fx.size ≤ 100000000 := by omega
      have C0 := FF'.out.cell 0
      simp at C0
      by_cases h1 : fk = 1
      · subst h1
        have HP3 : Hid (pk l (k + 1) = ⟨fs, fc, Phs ++ [(fd, fq)], Px ++ fx⟩) := by
          rw [HP2.out]
          exact add_one _ _ _ _ _ _ _ _
        clear HP2
        go_upto_region 10 with fail
        go_cut [] from 28 to 33 (fun wc => Bk wc w.heap.size (pcc 0 false (.slice none 0 0) ByteArray.empty) 28 ∧ Bk wc (w.heap.size + 1) (pcc fs fc v ByteArray.empty) 28 ∧ Bk wc b #[.int .i64 1, .int .i64 fs, .int .i64 fd, .int .i64 fq, .int .i64 fl, .bool fm, .bool fc, .string fx] 58 ∧ OwnK 55 2 wc (w.heap.size + 2) v Phs.length (pc Phs) ∧ OwnK 5 1 wc (w.heap.size + 2) d Px.size (strCells Px) ∧ Below w.heap.size w wc ∧ w.heap.size + 2 ≤ wc.heap.size ∧ b < wc.heap.size)
        case first =>
          have C1 := FF'.out.cell 1
          have C6 := FF'.out.cell 6
          have Y0 := F1'.out.cell 0
          have Y1 := F1'.out.cell 1
          have Z0 := F1'.out.free 0
          have Z1 := F1'.out.free 1
          simp at C1 C6 Y0 Y1
          have S1 : (fun V : World => V.cell? ⟨b, 1, none⟩ = some (.int .i64 fs) ∧ V.cell? ⟨b, 6, none⟩ = some (.bool fc)) wf.drew := ⟨C1, C6⟩
          go_region_held3 (fun V : World => V.cell? ⟨b, 1, none⟩ = some (.int .i64 fs) ∧ V.cell? ⟨b, 6, none⟩ = some (.bool fc)) (first | exact S1 | go_keep) (fail)
          all_goals
            go_wp2_with fail
            go_meet
            refine ⟨(F0'.out.far n0).far n0, ?_, (FF'.out.far n2).far n2, (FO'.out.far (by omega)).far (by omega), (FD'.out.far (by omega)).far (by omega), ((FB'.out.setCell (Nat.le_succ _) _).setCell (Nat.le_succ _) _).drew, by simp; omega, by simp; omega⟩
            first
              | exact Bk.drew (by have := (F1'.out.set 0 (.int .i64 fs)).set 1 (.bool fc); simpa using this)
              | exact Bk.drew (by have := (F1'.out.set 1 (.bool fc)).set 0 (.int .i64 fs); simpa using this)
        case rest =>
        obtain ⟨q0, q1, qf, qo, qd, qb, qs, qz⟩ := hcut
        have C2 := qf.cell 2
        have C3 := qf.cell 3
        have D2 := q1.cell 2
        simp at C2 C3 D2
        have AX : Below wc.heap.size wc (wc.alloc (.cells #[.int .i64 fd, .int .i64 fq] 55)) := (Below.refl _ _).alloc (Nat.le_refl _) _
        have own : OwnK 55 2 wc (w.heap.size + 2) v Phs.length (pc Phs) := qo
        have ownA := qo.below AX
        have G0p : Bk (wc.alloc (.cells #[.int .i64 fd, .int .i64 fq] 55)) w.heap.size (pcc 0 false (.slice none 0 0) ByteArray.empty) 28 := q0.alloc _
        have G1p : Bk (wc.alloc (.cells #[.int .i64 fd, .int .i64 fq] 55)) (w.heap.size + 1) (pcc fs fc v ByteArray.empty) 28 := q1.alloc _
        have GFp : Bk (wc.alloc (.cells #[.int .i64 fd, .int .i64 fq] 55)) b #[.int .i64 1, .int .i64 fs, .int .i64 fd, .int .i64 fq, .int .i64 fl, .bool fm, .bool fc, .string fx] 58 := qf.alloc _
        have GDp : OwnK 5 1 (wc.alloc (.cells #[.int .i64 fd, .int .i64 fq] 55)) (w.heap.size + 2) d Px.size (strCells Px) := qd.below AX
        have GBp : Below w.heap.size w (wc.alloc (.cells #[.int .i64 fd, .int .i64 fq] 55)) := qb.trans (AX.mono (by omega))
        have hlP : Phs.length ≤ 1000000 := by omega
        have m0 : v.ownBlock ≠ some w.heap.size := ownA.ne G0p (by decide)
        have m1 : v.ownBlock ≠ some (w.heap.size + 1) := ownA.ne G1p (by decide)
        have mF : v.ownBlock ≠ some b := ownA.ne GFp (by decide)
        have nl : ∀ r, v.ownBlock = some r → w.heap.size ≤ r := fun r hr => Nat.le_trans (by omega) (ownA.lt hr).1
        have hbA : w.heap.size + 2 ≤ (wc.alloc (.cells #[.int .i64 fd, .int .i64 fq] 55)).heap.size := Nat.le_trans qs AX.size
        have GOh : Hid (OwnK 55 2 (wc.alloc (.cells #[.int .i64 fd, .int .i64 fq] 55)) (w.heap.size + 2) v Phs.length (pc Phs)) := ownA
        have G0h : Hid (Bk (wc.alloc (.cells #[.int .i64 fd, .int .i64 fq] 55)) w.heap.size (pcc 0 false (.slice none 0 0) ByteArray.empty) 28) := G0p
        have G1h : Hid (Bk (wc.alloc (.cells #[.int .i64 fd, .int .i64 fq] 55)) (w.heap.size + 1) (pcc fs fc v ByteArray.empty) 28) := G1p
        have GFh : Hid (Bk (wc.alloc (.cells #[.int .i64 fd, .int .i64 fq] 55)) b #[.int .i64 1, .int .i64 fs, .int .i64 fd, .int .i64 fq, .int .i64 fl, .bool fm, .bool fc, .string fx] 58) := GFp
        have GDh : Hid (OwnK 5 1 (wc.alloc (.cells #[.int .i64 fd, .int .i64 fq] 55)) (w.heap.size + 2) d Px.size (strCells Px)) := GDp
        have GBh : Hid (Below w.heap.size w (wc.alloc (.cells #[.int .i64 fd, .int .i64 fq] 55))) := GBp
        clear G0p G1p GFp GBp GDp ownA AX q0 q1 qf qo qd qb F0' F1' FF' FO' FD' FB' fz hz hz1' fb
        go_upto_region 12 with (at_builtin; go_loud (refine wpList_app_two rfl (.tmp 35) (.tmp 41) 26 55 i0 (.agg #[.int .i64 0, .int .i64 0]) 16 rfl Try.underlying26 ki hz0 hz1 hz2 rfl (by decide) (w.heap.size + 2) wc v Phs.length (pc Phs) fd fq rfl own rfl hlP qs ?_; intro v1' wb ow gw; obtain ⟨ra, za, rfl, -, -, -⟩ := ow.rd (by decide); have G0 := G0h.out.kept gw m0; have G1 := G1h.out.kept gw m1; have GF := GFh.out.kept gw mF; have GD := GOh.out.kept GDh.out (by decide) gw; have GB := Below.grown GBh.out gw (by omega) nl; have GS := Nat.le_trans hbA gw.size; have D2 := G1.cell 2; have D7 := GF.cell 7; have U2 := G1.free 2; have G0' : Hid (Bk wb w.heap.size (pcc 0 false (.slice none 0 0) ByteArray.empty) 28) := G0; have G1' : Hid (Bk wb (w.heap.size + 1) (pcc fs fc v ByteArray.empty) 28) := G1; have GB' : Hid (Below w.heap.size w wb) := GB; have OW' : Hid (OwnK 55 2 wb (w.heap.size + 2) (.slice ra (Phs.length + 1) za) (Phs.length + 1) (pc Phs ++ [.int .i64 fd, .int .i64 fq])) := ow; have GD' : Hid (OwnK 5 1 wb (w.heap.size + 2) d Px.size (strCells Px)) := GD; clear G0 G1 GF GB gw ow own GD GOh G0h G1h GFh GDh GBh nl m0 m1 mF; simp at D2 D7))
        have X0 : Hid (Bk (wb.setCell ⟨w.heap.size + 1, 2, none⟩ (.slice ra (Phs.length + 1) za)) w.heap.size (pcc 0 false (.slice none 0 0) ByteArray.empty) 28) := G0'.out.far n0
        have X1p : Bk (wb.setCell ⟨w.heap.size + 1, 2, none⟩ (.slice ra (Phs.length + 1) za)) (w.heap.size + 1) (pcc fs fc (.slice ra (Phs.length + 1) za) ByteArray.empty) 28 := by
          have := G1'.out.set 2 (.slice ra (Phs.length + 1) za)
          simpa using this
        have X1 : Hid (Bk (wb.setCell ⟨w.heap.size + 1, 2, none⟩ (.slice ra (Phs.length + 1) za)) (w.heap.size + 1) (pcc fs fc (.slice ra (Phs.length + 1) za) ByteArray.empty) 28) := X1p
        clear X1p
        have XO : Hid (OwnK 55 2 (wb.setCell ⟨w.heap.size + 1, 2, none⟩ (.slice ra (Phs.length + 1) za)) (w.heap.size + 2) (.slice ra (Phs.length + 1) za) (Phs ++ [(fd, fq)]).length (pc (Phs ++ [(fd, fq)]))) := by
          rw [← pc_snoc, List.length_append]
          exact OW'.out.far (by omega)
        have XB : Hid (Below w.heap.size w (wb.setCell ⟨w.heap.size + 1, 2, none⟩ (.slice ra (Phs.length + 1) za))) := GB'.out.setCell (by simp) _
        have XS : w.heap.size + 2 ≤ (wb.setCell ⟨w.heap.size + 1, 2, none⟩ (.slice ra (Phs.length + 1) za)).heap.size := by simp; omega
        have XD : OwnK 5 1 (wb.setCell ⟨w.heap.size + 1, 2, none⟩ (.slice ra (Phs.length + 1) za)) (w.heap.size + 2) d Px.size (strCells Px) := GD'.out.far (by omega)
        have XDh : Hid (OwnK 5 1 (wb.setCell ⟨w.heap.size + 1, 2, none⟩ (.slice ra (Phs.length + 1) za)) (w.heap.size + 2) d Px.size (strCells Px)) := XD
        have m0 : d.ownBlock ≠ some w.heap.size := XD.ne X0.out (by decide)
        have m1 : d.ownBlock ≠ some (w.heap.size + 1) := XD.ne X1.out (by decide)
        have nl : ∀ r, d.ownBlock = some r → w.heap.size ≤ r := fun r hr => Nat.le_trans (by omega) (XD.lt hr).1
        clear G0' G1' OW' GB' GD'
        go_wp2_with (at_builtin; go_loud (refine wpList_app_text rfl (.tmp 44) (.tmp 46) 80 9 rfl 5 i5 Try.underlying80 Try.underlying9 k5 y0 y1 y2 (w.heap.size + 2) _ d Px fx rfl XD rfl hxx XS ?_; intro v2' wd od gd))
        have Y0 : Hid (Bk wd w.heap.size (pcc 0 false (.slice none 0 0) ByteArray.empty) 28) := X0.out.kept gd m0
        have Y1 : Hid (Bk wd (w.heap.size + 1) (pcc fs fc (.slice ra (Phs.length + 1) za) ByteArray.empty) 28) := X1.out.kept gd m1
        have YO : Hid (OwnK 55 2 wd (w.heap.size + 2) (.slice ra (Phs.length + 1) za) (Phs ++ [(fd, fq)]).length (pc (Phs ++ [(fd, fq)]))) := XDh.out.kept XO.out (by decide) gd
        have YB : Hid (Below w.heap.size w wd) := Below.grown XB.out gd (by omega) nl
        have YS : Hid (w.heap.size + 2 ≤ wd.heap.size) := Nat.le_trans XS gd.size
        have YD : Hid (OwnK 5 1 wd (w.heap.size + 2) v2' (Px ++ fx).size (strCells (Px ++ fx))) := od
        clear od gd XD XDh X0 X1 XO XB nl m0 m1 XS
        go_roundw
        case rel => exact ⟨k + 1, .slice ra (Phs.length + 1) za, ⟨fs, fc, Phs ++ [(fd, fq)], Px ++ fx⟩, by omega, by go_num, HP3.out.symm, HS3.out, Y0.out, Y1.out, YO.out, YD.out, YB.out, YS.out⟩
        case measure => simp [RowKit.intOf]; omega
      · have HP3 : Hid (pk l (k + 1) = ⟨Ps, Pcc, Phs, Px ++ fx⟩) := by
          rw [HP2.out]
          exact add_other _ h1 _ _ _ _ _ _ _
        clear HP2
        have C7 := FF'.out.cell 7
        simp at C7
        have XD : OwnK 5 1 wf (w.heap.size + 2) d Px.size (strCells Px) := FD'.out
        have XS : w.heap.size + 2 ≤ wf.heap.size := by omega
        have m0 : d.ownBlock ≠ some w.heap.size := XD.ne F0'.out (by decide)
        have m1 : d.ownBlock ≠ some (w.heap.size + 1) := XD.ne F1'.out (by decide)
        have nl : ∀ r, d.ownBlock = some r → w.heap.size ≤ r := fun r hr => Nat.le_trans (by omega) (XD.lt hr).1
        go_wp2_with (at_builtin; go_loud (refine wpList_app_text rfl (.tmp 44) (.tmp 46) 80 9 rfl 5 i5 Try.underlying80 Try.underlying9 k5 y0 y1 y2 (w.heap.size + 2) wf d Px fx rfl XD rfl hxx XS ?_; intro v2' wd od gd))
        have Y0 : Hid (Bk wd w.heap.size (pcc 0 false (.slice none 0 0) ByteArray.empty) 28) := F0'.out.kept gd m0
        have Y1 : Hid (Bk wd (w.heap.size + 1) (pcc Ps Pcc v ByteArray.empty) 28) := F1'.out.kept gd m1
        have YO : Hid (OwnK 55 2 wd (w.heap.size + 2) v Phs.length (pc Phs)) := FD'.out.kept FO'.out (by decide) gd
        have YB : Hid (Below w.heap.size w wd) := Below.grown FB'.out gd (by omega) nl
        have YS : Hid (w.heap.size + 2 ≤ wd.heap.size) := Nat.le_trans XS gd.size
        have YD : Hid (OwnK 5 1 wd (w.heap.size + 2) v2' (Px ++ fx).size (strCells (Px ++ fx))) := od
        clear od gd XD F0' F1' FF' FO' FD' FB' nl m0 m1 XS C0 C7
        go_roundw
        case rel => exact ⟨k + 1, v, ⟨Ps, Pcc, Phs, Px ++ fx⟩, by omega, by go_num, HP3.out.symm, HS3.out, Y0.out, Y1.out, YO.out, YD.out, YB.out, YS.out⟩
        case measure => simp [RowKit.intOf]; omega
    · obtain rfl : k = n := by omega
      have e1 : ¬ (k : Int) < (k : Int) := by omega
      have e9 : rs = (P, 0) := by
        rw [← HRS.out, gathR_ok (errR_all l fun j hj => HS.out j (by rw [HN.out] at hj; exact hj)), HN.out, ← HP.out]
      subst e9
      have hst := text_of HD.out
      obtain ⟨ra, za, rfl, hcz, _, -⟩ := HO.out.rd (by decide)
      have HCZ : Hid (P.hs.length ≤ za) := hcz
      clear hcz HRS HP HS HC
      have Y0 := H0.out.cell 0
      have Y1 := H0.out.cell 1
      have Y2 := H0.out.cell 2
      have Y3 := H0.out.cell 3
      have Z0 := H0.out.free 0
      have Z1 := H0.out.free 1
      have Z2 := H0.out.free 2
      have Z3 := H0.out.free 3
      have D0 := H1.out.cell 0
      have D1 := H1.out.cell 1
      have D2 := H1.out.cell 2
      have D3 := H1.out.cell 3
      have U3 := H1.out.free 3
      simp at Y0 Y1 Y2 Y3 D0 D1 D2 D3
      have n0 : ¬ w.heap.size = w.heap.size + 1 := by omega
      have n1 : ¬ w.heap.size + 1 = w.heap.size := by omega
      have hz : w.heap.size < wr.heap.size := by omega
      have hz1' : w.heap.size + 1 < wr.heap.size := by omega
      go_wp2
      refine bodyPost_ret (v := .tuple #[pcv P.s P.c (.slice ra P.hs.length za) P.x, .int .i64 0]) (by simp [results, Try.results33, go_sem, Y0, Y1, Y2, Y3]) rfl ⟨ra, za, rfl, HCZ.out, ?_, below_four (HB.out.setCell (by simp) _) (Nat.le_refl _) _ _ _ _⟩
      have own : OwnK 55 2 _ (w.heap.size + 2) (.slice ra P.hs.length za) P.hs.length (pc P.hs) := ((((HO.out.far (b := w.heap.size + 1) (j := 3) (x := .string P.x) (by omega)).far (b := w.heap.size) (j := 0) (x := .int .i64 P.s) (by omega)).far (b := w.heap.size) (j := 1) (x := .bool P.c) (by omega)).far (b := w.heap.size) (j := 2) (x := .slice ra P.hs.length za) (by omega)).far (b := w.heap.size) (j := 3) (x := .string P.x) (by omega)
      obtain ⟨a', c', e', _, _, rd⟩ := own.rd (by decide)
      simp only [Value.slice.injEq] at e'
      obtain ⟨rfl, _, _⟩ := e'
      exact rd
end Go.Proofs.Ytnhfoojnokiboaa
