/-
  The walk of JoinErrors.
-/
import Derived.Test.YtockjijhckkicaaStep
namespace Go.Proofs.Ytockjijhckkicaa
open Go.RowKit

set_option maxRecDepth 100000 in
set_option maxHeartbeats 32000000 in
theorem errors_law (ps : List Pc) (a : Option Addr) (cap : Nat) (at' : Int) (odd : Nat) (hodd : odd < 18446744073709551616) (w : World) (hr : PsRd w a ps) :
    Calls Try.prog 5 #[.slice a ps.length cap, .int .i64 at', .int .u64 (odd : Int)] w fun e w' => e = .returned (.bool true) ∧ Below w.heap.size w w' := by
  obtain ⟨i5, k5, y0, y1, y2⟩ := info_parts Try.infoK
  obtain ⟨o1, o2, o3⟩ := wj_run takeR_tells ps 8
  have hs := wj_small ps 8
  have hlt8 := wj_lt ps 8
  have WJ := fun w' h => wordsj_any ps a cap w' h
  have HR : Hid (PsRd w a ps) := hr
  generalize wj ps 8 = L at *
  generalize kj ps 8 = KK at *
  have TC := fun j W h1 h2 b w h => take_any j W h1 h2 b w h
  have HTK : Hid (∀ S, takeR S odd = takeF S (readR odd).1 (readR odd).2) := fun S => takeR_eq S odd
  have RC := fun w => rread_any odd hodd w
  have HOD : Hid (odd < 18446744073709551616) := hodd
  have HS : Hid (∀ k, k < L.length → ∃ W : Nat, (vw L)[k]? = some (.int .u64 (W : Int)) ∧ W < 18446744073709551616 ∧ (takeR (sj takeR L k) W).2.2.2 = 0 ∧ sj takeR L (k + 1) = (takeR (sj takeR L k) W).1 ∧ kp takeR L (k + 1) = kp takeR L k ++ (if (takeR (sj takeR L k) W).2.2.1 = true then [(takeR (sj takeR L k) W).2.1] else [])) := show _ from fun k hk => by
    have hk' : L[k]? = some L[k] := List.getElem?_eq_getElem hk
    obtain ⟨s1, s2⟩ := sj_step (T := takeR) hk'
    exact ⟨L[k], by unfold vw; rw [List.getElem?_map, hk']; rfl, hlt8 _ (List.getElem_mem hk), ok_at o1 hk', s1, s2⟩
  have HX : Hid (∀ k, (sj takeR L k).x.size ≤ 6 * k) := sj_x takeR_six
  have HP : Hid (∀ k, (kp takeR L k).length ≤ k) := fun k => kp_small k
  have HPR : Hid (∀ k, (kp takeR L k).length ≤ KK.length ∧ KK.take (kp takeR L k).length = kp takeR L k) := show _ from fun k => by
    rw [← o3]
    exact kp_pre takeR L k
  have HZ : Hid (sj takeR L 0 = zjs ∧ kp takeR L 0 = []) := ⟨rfl, rfl⟩
  obtain ⟨n, hn⟩ : ∃ n, L.length = n := ⟨_, rfl⟩
  have HVL : Hid ((vw L).length = n) := (vw_len L).trans hn
  obtain ⟨m, hm⟩ : ∃ n, KK.length = n := ⟨_, rfl⟩
  rw [hn] at HS hs
  rw [hm] at HPR WJ hs
  generalize sj takeR L = SJ at *
  generalize kp takeR L = KP at *
  generalize takeR = TK at *
  obtain ⟨F, hF⟩ : ∃ F, (readR odd).1 = F := ⟨_, rfl⟩
  obtain ⟨er, hE⟩ : ∃ E, (readR odd).2 = E := ⟨_, rfl⟩
  rw [hF, hE] at RC HTK
  clear o1 o2 o3 hr hn hm hlt8 hF hE hodd
  obtain ⟨fk, fs, fd, fq, fl, fm, fc, fx⟩ := F
  simp only [flv, flc] at RC
  have LV := lives_any w
  have u3 : (n : Int) ≤ 1000 := by omega
  go_enter Try.func5, Try.ntmps5
  go_wp2_with fail
  go_at_call 8
  with_reducible refine LV.mono ?_
  rintro e w1 ⟨rfl, hb1⟩
  have HB1 : Hid (Below w.heap.size w w1) := hb1
  have WJ1 := WJ w1 (HR.out.below hb1)
  clear LV hb1 WJ HR
  go_wp2_with fail
  go_at_call 9
  with_reducible refine WJ1.mono ?_
  rintro e w4 ⟨v1, v2, rfl, ow, ok, hb2⟩
  have HB4 : Hid (Below w.heap.size w w4) := HB1.out.trans (hb2.mono HB1.out.size)
  obtain ⟨a1, cap1, rfl, hc1, hm1, rd1⟩ := OwnK.rd (k := 1) ow (by decide)
  obtain ⟨a2, cap2, rfl, hc2, hm2, rd2⟩ := ok.rd (by decide)
  rw [HVL.out] at hc1 ⊢
  have HW4 : Hid (Rd w4 a1 (vw L)) := rd1
  have HK4 : Hid (Rd w4 a2 (kcs KK)) := rd2
  clear WJ1 HB1 hb2 ow ok rd1 rd2 HVL
  have A0 : Hid (Bk (w4.alloc (.cells (pj zjs) 64)) w4.heap.size (pj zjs) 64) := Bk.new _ _ _
  have A1 : Hid (Below w4.heap.size w4 (w4.alloc (.cells (pj zjs) 64))) := (Below.refl _ _).alloc (Nat.le_refl _) _
  go_upto_region 5 with (go_at_call 10; (with_reducible refine (new_any _).mono ?_); rintro e w' ⟨rfl, rfl⟩)
  generalize w4.alloc (.cells (pj zjs) 64) = v0 at *
  obtain ⟨b, hb⟩ : ∃ b, w4.heap.size = b := ⟨_, rfl⟩
  have HBB : Hid (w4.heap.size = b) := hb
  rw [hb] at A0 A1 ⊢
  have hb0 : b < v0.heap.size := A0.out.lt
  clear hb
  go_wp2_with fail
  go_loopw [10, 11] (fun v i wr => ∃ j : Nat, j ≤ n ∧ i = .int .i64 j ∧ Bk wr b (pj (SJ j)) 64 ∧ OwnK 33 4 wr (b + 1) v (KP j).length (kcs (KP j)) ∧ Below b w4 wr) (fun _ i _ => n - (RowKit.intOf i).toNat)
  case atStart => exact ⟨0, Nat.zero_le _, rfl, by rw [HZ.out.1]; exact A0.out, by rw [HZ.out.2]; exact OwnK.nil _ _ _ _, A1.out⟩
  case round =>
    obtain ⟨j, hj, rfl, hjs, ho, hbl⟩ := hrel
    clear A0 A1 HZ
    have HO : Hid (OwnK 33 4 wr (b + 1) u10 (KP j).length (kcs (KP j))) := ho
    have HB : Hid (Below b w4 wr) := hbl
    have HJ : Hid (Bk wr b (pj (SJ j)) 64) := hjs
    obtain ⟨v, rfl⟩ : ∃ v, v = u10 := ⟨_, rfl⟩
    have hbz : b < wr.heap.size := hjs.lt
    have HX9 : Hid (Below w.heap.size w wr) := HB4.out.trans (by rw [← HBB.out] at hbl; exact hbl.mono HB4.out.size)
    clear hjs hbl ho
    by_cases hlt : j < n
    case neg =>
      have e4 : ¬ (j : Int) < (n : Int) := by omega
      generalize wr = wc at *
      obtain ⟨pr1, pr2⟩ := HPR.out j
      obtain ⟨a3, cap3, rfl, hc3, hm3, rd3⟩ := HO.out.rd (by decide)
      have hk3 := (HK4.out.below (show Below w4.heap.size w4 wc by rw [HBB.out]; exact HB.out)).ktake (KP j).length
      rw [pr2] at hk3
      have SC1 := fun x y => samep_any true (KP j) (KP j) a3 a2 x y wc (by have := HP.out j; omega) (by have := HP.out j; omega) (by simp) rd3 hk3
      generalize (KP j).length = M at *
      have f1 : (M : Int) ≤ (m : Int) := by omega
      have f2 : (0 : Int) ≤ (M : Int) := by omega
      have f3 : (M : Int) ≤ (cap2 : Int) := by omega
      clear rd3 hk3 pr2 HJ HB HO HK4 HW4
      go_wp2_with (go_at_call 16; (with_reducible refine (SC1 _ _).mono ?_); rintro e w9 ⟨rfl, q, rfl⟩)
      go_ret
      exact ⟨rfl, dn HX9.out _⟩
    have e4 : (j : Int) < (n : Int) := by omega
    have e5 : (0 : Int) ≤ (j : Int) := by omega
    obtain ⟨k, hk⟩ : ∃ k : Nat, IntKind.i64.wrap ((IntKind.u64.wrap at').tmod (n : Int)) = (k : Int) := by
      obtain ⟨z0, z1⟩ := md_in at' (m := (n : Int)) (by omega) (by omega)
      exact ⟨(md at' (n : Int)).toNat, by unfold md at z0 ⊢; omega⟩
    have u1 : IntKind.u64.wrap (n : Int) = (n : Int) := by rw [IntKind.wrap_u64]; omega
    have u2 : ¬ (n : Int) = 0 := by omega
    by_cases hjk : j = k
    case neg =>
      have e6 : ¬ (j : Int) = (k : Int) := by omega
      go_upto_region 18 with fail
      clear hk u1 u2 hjk e6
      generalize wr = wc at *
      obtain ⟨W, hW, hW2, h0, h1, h2⟩ := HS.out j hlt
      obtain ⟨g, o, rfl, hg, c0'⟩ := HW4.out j _ hW
      have hgb : g < b := by rw [← HBB.out]; exact hg
      have c0 := (HB.out.cell (p := ⟨g, o + j, none⟩) hgb).trans c0'
      have hpn := HP.out j
      have CC := TC (SJ j) W hW2 (Nat.le_trans (HX.out j) (by omega)) b wc HJ.out
      obtain ⟨r, hr⟩ : ∃ r, TK (SJ j) W = r := ⟨_, rfl⟩
      rw [hr] at CC h0 h1 h2
      clear hr hW hW2 c0' hg HX9
      obtain ⟨j2, ⟨ps', pd, pq, px⟩, pb, pe⟩ := r
      simp only at h0 h1 h2
      subst h0
      have HJ2 : Hid (SJ (j + 1) = j2) := h1
      have HP2 : Hid (KP (j + 1) = KP j ++ (if pb = true then [⟨ps', pd, pq, px⟩] else [])) := h2
      clear h1 h2
      simp only [pkv, pkc] at CC
      go_upto_region 19 with (go_at_call 11; (with_reducible refine CC.mono ?_); rintro e w2' ⟨rfl, hk2, hg2⟩)
      have K1 : Hid (Bk (w2'.alloc (.cells #[.int .i64 ps', .int .i64 pd, .int .i64 pq, .string px] 33)) b (pj j2) 64) := hk2.alloc _
      have m1 : v.ownBlock ≠ some b := fun h => by have := (HO.out.lt h).1; omega
      have O1 : Hid (OwnK 33 4 (w2'.alloc (.cells #[.int .i64 ps', .int .i64 pd, .int .i64 pq, .string px] 33)) (b + 1) v (KP j).length (kcs (KP j))) := (HO.out.gb hg2 m1).below ((Below.refl _ _).alloc (Nat.le_refl _) _)
      have B1 : Hid (Below b w4 (w2'.alloc (.cells #[.int .i64 ps', .int .i64 pd, .int .i64 pq, .string px] 33))) := (below_gb HB.out hg2 (Nat.le_refl _) (Nat.le_of_lt hbz)).alloc (Nat.le_trans (Nat.le_of_lt hbz) hg2.size) _
      have P1 : Hid (Bk (w2'.alloc (.cells #[.int .i64 ps', .int .i64 pd, .int .i64 pq, .string px] 33)) w2'.heap.size #[.int .i64 ps', .int .i64 pd, .int .i64 pq, .string px] 33) := Bk.new _ _ _
      have hbz2 : b < (w2'.alloc (.cells #[.int .i64 ps', .int .i64 pd, .int .i64 pq, .string px] 33)).heap.size := K1.out.lt
      have hbf : b < w2'.heap.size := Nat.lt_of_lt_of_le hbz hg2.size
      clear CC HJ HO HB hk2 hg2 c0 m1 hbz
      generalize w2'.alloc (.cells #[.int .i64 ps', .int .i64 pd, .int .i64 pq, .string px] 33) = v2 at *
      generalize w2'.heap.size = c at *
      have d0 := P1.out.cell 0
      have d1 := P1.out.cell 1
      have d2 := P1.out.cell 2
      have d3 := P1.out.cell 3
      simp only [List.getElem?_toArray, List.getElem?_cons_zero, List.getElem?_cons_succ] at d0 d1 d2 d3
      cases pb
      · go_wp2
        go_roundw
        case rel => exact ⟨j + 1, by omega, by go_num, by rw [HJ2.out]; exact K1.out, by rw [HP2.out, if_neg (by decide), List.append_nil]; exact O1.out, B1.out⟩
        case measure => simp [RowKit.intOf]; omega
      have O2 : OwnK 33 4 (v2.alloc (.cells #[.int .i64 ps', .int .i64 pd, .int .i64 pq, .string px] 33)) (b + 1) v (KP j).length (kcs (KP j)) := O1.out.below ((Below.refl _ _).alloc (Nat.le_refl _) _)
      have K2 : Hid (Bk (v2.alloc (.cells #[.int .i64 ps', .int .i64 pd, .int .i64 pq, .string px] 33)) b (pj j2) 64) := K1.out.alloc _
      have B2 : Hid (Below b w4 (v2.alloc (.cells #[.int .i64 ps', .int .i64 pd, .int .i64 pq, .string px] 33))) := B1.out.alloc (Nat.le_of_lt hbz2) _
      have R2 : Rd (v2.alloc (.cells #[.int .i64 ps', .int .i64 pd, .int .i64 pq, .string px] 33)) (some ⟨v2.heap.size, 0, none⟩) (kcs [⟨ps', pd, pq, px⟩]) := fun j u hj => ⟨v2.heap.size, 0, rfl, (Bk.new v2 #[.int .i64 ps', .int .i64 pd, .int .i64 pq, .string px] 33).lt, by
        rw [Nat.zero_add, (Bk.new v2 #[.int .i64 ps', .int .i64 pd, .int .i64 pq, .string px] 33).cell j]
        simpa [kcs] using hj⟩
      have hl6 : (KP j).length + 1 ≤ 1000000 := by omega
      have hs6 : b + 1 ≤ (v2.alloc (.cells #[.int .i64 ps', .int .i64 pd, .int .i64 pq, .string px] 33)).heap.size := K2.out.lt
      have O2h : Hid (OwnK 33 4 (v2.alloc (.cells #[.int .i64 ps', .int .i64 pd, .int .i64 pq, .string px] 33)) (b + 1) v (KP j).length (kcs (KP j))) := O2
      go_upto_region 8 with (at_builtin; go_loud (refine wpList_app_rowk rfl (.tmp 110) (.tmp 112) 25 33 i5 (.agg #[.int .i64 0, .int .i64 0, .int .i64 0, .string ⟨#[]⟩]) 4 40 rfl Try.underlying25 k5 y0 y1 y2 rfl (by decide) (by decide) (b + 1) (v2.alloc (.cells #[.int .i64 ps', .int .i64 pd, .int .i64 pq, .string px] 33)) v (KP j).length (kcs (KP j)) rfl O2 v2.heap.size 0 1 1 rfl (kcs [⟨ps', pd, pq, px⟩]) rfl R2 (kcs_one _) hl6 hs6 ?_; intro v' w7 o7 g7))
      have m1 : v.ownBlock ≠ some b := fun h => by have := (O2h.out.lt h).1; omega
      have m2 : ∀ r, v.ownBlock = some r → b ≤ r := fun r h => by have := (O2h.out.lt h).1; omega
      have K3 : Hid (Bk w7 b (pj j2) 64) := K2.out.kept g7 m1
      have B3 : Hid (Below b w4 w7) := Below.grown B2.out g7 (Nat.le_of_lt (Nat.lt_of_succ_le hs6)) m2
      have O3 : Hid (OwnK 33 4 w7 (b + 1) v' (KP (j + 1)).length (kcs (KP (j + 1)))) := by
        rw [HP2.out, if_pos rfl, kcs_app, List.length_append]
        exact o7
      clear o7 g7 O2 K2 B2 R2 hl6 hs6 O2h d0 d1 d2 d3 P1
      go_wp2
      go_roundw
      case rel => exact ⟨j + 1, by omega, by go_num, by rw [HJ2.out]; exact K3.out, O3.out, B3.out⟩
      case measure => simp [RowKit.intOf]; omega
    subst hjk
    obtain ⟨S, hS⟩ : ∃ S, SJ j = S := ⟨_, rfl⟩
    have HSJ : Hid (SJ j = S) := hS
    have hxs : S.x.size ≤ 900000 := by rw [← hS]; exact Nat.le_trans (HX.out j) (by omega)
    rw [hS] at HJ
    clear hS
    have BC := begun_any HJ.out
    have HC := has_any HJ.out
    obtain ⟨sb, ss, sd, sq, sx, sn⟩ := S
    simp only at BC HC hxs
    go_upto_region 12 with (first
      | (go_at_call 13; (with_reducible refine BC.mono ?_); rintro e w5 ⟨rfl, rfl⟩)
      | (go_at_call 14; (with_reducible refine HC.mono ?_); rintro e w5 ⟨rfl, rfl⟩)
      | (go_at_call 17; (with_reducible refine (RC _).mono ?_); rintro e wa ⟨rfl, hba⟩))
    have JN : Hid (Bk (wa.alloc (.cells #[.int .i64 fk, .int .i64 fs, .int .i64 fd, .int .i64 fq, .int .i64 fl, .bool fm, .bool fc, .string fx] 48)) b (pj ⟨sb, ss, sd, sq, sx, sn⟩) 64) := (HJ.out.next hba).alloc _
    have ON : Hid (OwnK 33 4 (wa.alloc (.cells #[.int .i64 fk, .int .i64 fs, .int .i64 fd, .int .i64 fq, .int .i64 fl, .bool fm, .bool fc, .string fx] 48)) (b + 1) v (KP j).length (kcs (KP j))) := (HO.out.below hba).below ((Below.refl _ _).alloc (Nat.le_refl _) _)
    have hsz := Nat.le_trans (Nat.le_of_lt hbz) hba.size
    have BN : Hid (Below b w4 (wa.alloc (.cells #[.int .i64 fk, .int .i64 fs, .int .i64 fd, .int .i64 fq, .int .i64 fl, .bool fm, .bool fc, .string fx] 48))) := (HB.out.trans (hba.mono (Nat.le_of_lt hbz))).alloc hsz _
    have XN : Hid (Below w.heap.size w (wa.alloc (.cells #[.int .i64 fk, .int .i64 fs, .int .i64 fd, .int .i64 fq, .int .i64 fl, .bool fm, .bool fc, .string fx] 48))) := (HX9.out.trans (hba.mono HX9.out.size)).alloc (Nat.le_trans HX9.out.size hba.size) _
    have FN : Hid (Bk (wa.alloc (.cells #[.int .i64 fk, .int .i64 fs, .int .i64 fd, .int .i64 fq, .int .i64 fl, .bool fm, .bool fc, .string fx] 48)) wa.heap.size #[.int .i64 fk, .int .i64 fs, .int .i64 fd, .int .i64 fq, .int .i64 fl, .bool fm, .bool fc, .string fx] 48) := Bk.new _ _ _
    have hbf : b < wa.heap.size := Nat.lt_of_lt_of_le hbz hba.size
    have hbz2 := JN.out.lt
    clear BC HC RC hba HJ HO HB HX9 hbz hsz hk u1 u2
    generalize wa.alloc (.cells #[.int .i64 fk, .int .i64 fs, .int .i64 fd, .int .i64 fq, .int .i64 fl, .bool fm, .bool fc, .string fx] 48) = v1 at *
    generalize wa.heap.size = bf at *
    have HJ := JN
    have HO := ON
    have HB := BN
    have HX9 := XN
    have hbz := hbz2
    clear JN ON BN XN hbz2
    have d0 := FN.out.cell 0
    simp only [List.getElem?_toArray, List.getElem?_cons_zero] at d0
    have hT0 := HTK.out ⟨sb, ss, sd, sq, sx, sn⟩
    unfold takeF at hT0
    by_cases he : er = 0
    case neg =>
      have hT : TK ⟨sb, ss, sd, sq, sx, sn⟩ odd = (⟨sb, ss, sd, sq, sx, sn⟩, zpk, false, er) := by rw [hT0, if_pos he]
      clear hT0 FN
      have CC := TC ⟨sb, ss, sd, sq, sx, sn⟩ odd HOD.out hxs b v1 HJ.out
      rw [hT] at CC
      simp only [pkv, pkc] at CC
      clear hT
      go_upto_region 14 with (go_at_call 11; (with_reducible refine CC.mono ?_); rintro e w6 ⟨rfl, hk6, hg6⟩)
      have m1 : v.ownBlock ≠ some b := fun h => by have := (HO.out.lt h).1; omega
      have JX : Hid (Bk (w6.alloc (.cells #[.int .i64 0, .int .i64 0, .int .i64 0, .string ByteArray.empty] 33)) b (pj ⟨sb, ss, sd, sq, sx, sn⟩) 64) := hk6.alloc _
      have OX : Hid (OwnK 33 4 (w6.alloc (.cells #[.int .i64 0, .int .i64 0, .int .i64 0, .string ByteArray.empty] 33)) (b + 1) v (KP j).length (kcs (KP j))) := (HO.out.gb hg6 m1).below ((Below.refl _ _).alloc (Nat.le_refl _) _)
      have BX : Hid (Below b w4 (w6.alloc (.cells #[.int .i64 0, .int .i64 0, .int .i64 0, .string ByteArray.empty] 33))) := (below_gb HB.out hg6 (Nat.le_refl _) (Nat.le_of_lt hbz)).alloc (Nat.le_trans (Nat.le_of_lt hbz) hg6.size) _
      have hbz2 := JX.out.lt
      clear CC HJ HO HB hk6 hg6 m1 hbz d0 HX9
      generalize w6.alloc (.cells #[.int .i64 0, .int .i64 0, .int .i64 0, .string ByteArray.empty] 33) = wc at *
      have BC2 := begun_any JX.out
      have HC2 := has_any JX.out
      go_upto_region 18 with (first
        | (go_at_call 13; (with_reducible refine BC2.mono ?_); rintro e w8 ⟨rfl, rfl⟩)
        | (go_at_call 14; (with_reducible refine HC2.mono ?_); rintro e w8 ⟨rfl, rfl⟩))
      have HJ : Hid (Bk wc b (pj (SJ j)) 64) := by rw [HSJ.out]; exact JX.out
      have HO := OX
      have HB := BX
      have hbz := hbz2
      have HX9 : Hid True := trivial
      clear BC2 HC2 JX OX BX hbz2 HOD HTK HSJ
      obtain ⟨W, hW, hW2, h0, h1, h2⟩ := HS.out j hlt
      obtain ⟨g, o, rfl, hg, c0'⟩ := HW4.out j _ hW
      have hgb : g < b := by rw [← HBB.out]; exact hg
      have c0 := (HB.out.cell (p := ⟨g, o + j, none⟩) hgb).trans c0'
      have hpn := HP.out j
      have CC := TC (SJ j) W hW2 (Nat.le_trans (HX.out j) (by omega)) b wc HJ.out
      obtain ⟨r, hr⟩ : ∃ r, TK (SJ j) W = r := ⟨_, rfl⟩
      rw [hr] at CC h0 h1 h2
      clear hr hW hW2 c0' hg HX9
      obtain ⟨j2, ⟨ps', pd, pq, px⟩, pb, pe⟩ := r
      simp only at h0 h1 h2
      subst h0
      have HJ2 : Hid (SJ (j + 1) = j2) := h1
      have HP2 : Hid (KP (j + 1) = KP j ++ (if pb = true then [⟨ps', pd, pq, px⟩] else [])) := h2
      clear h1 h2
      simp only [pkv, pkc] at CC
      go_upto_region 19 with (go_at_call 11; (with_reducible refine CC.mono ?_); rintro e w2' ⟨rfl, hk2, hg2⟩)
      have K1 : Hid (Bk (w2'.alloc (.cells #[.int .i64 ps', .int .i64 pd, .int .i64 pq, .string px] 33)) b (pj j2) 64) := hk2.alloc _
      have m1 : v.ownBlock ≠ some b := fun h => by have := (HO.out.lt h).1; omega
      have O1 : Hid (OwnK 33 4 (w2'.alloc (.cells #[.int .i64 ps', .int .i64 pd, .int .i64 pq, .string px] 33)) (b + 1) v (KP j).length (kcs (KP j))) := (HO.out.gb hg2 m1).below ((Below.refl _ _).alloc (Nat.le_refl _) _)
      have B1 : Hid (Below b w4 (w2'.alloc (.cells #[.int .i64 ps', .int .i64 pd, .int .i64 pq, .string px] 33))) := (below_gb HB.out hg2 (Nat.le_refl _) (Nat.le_of_lt hbz)).alloc (Nat.le_trans (Nat.le_of_lt hbz) hg2.size) _
      have P1 : Hid (Bk (w2'.alloc (.cells #[.int .i64 ps', .int .i64 pd, .int .i64 pq, .string px] 33)) w2'.heap.size #[.int .i64 ps', .int .i64 pd, .int .i64 pq, .string px] 33) := Bk.new _ _ _
      have hbz2 : b < (w2'.alloc (.cells #[.int .i64 ps', .int .i64 pd, .int .i64 pq, .string px] 33)).heap.size := K1.out.lt
      have hbf : b < w2'.heap.size := Nat.lt_of_lt_of_le hbz hg2.size
      clear CC HJ HO HB hk2 hg2 c0 m1 hbz
      generalize w2'.alloc (.cells #[.int .i64 ps', .int .i64 pd, .int .i64 pq, .string px] 33) = v2 at *
      generalize w2'.heap.size = c at *
      have d0 := P1.out.cell 0
      have d1 := P1.out.cell 1
      have d2 := P1.out.cell 2
      have d3 := P1.out.cell 3
      simp only [List.getElem?_toArray, List.getElem?_cons_zero, List.getElem?_cons_succ] at d0 d1 d2 d3
      cases pb
      · go_wp2
        go_roundw
        case rel => exact ⟨j + 1, by omega, by go_num, by rw [HJ2.out]; exact K1.out, by rw [HP2.out, if_neg (by decide), List.append_nil]; exact O1.out, B1.out⟩
        case measure => simp [RowKit.intOf]; omega
      have O2 : OwnK 33 4 (v2.alloc (.cells #[.int .i64 ps', .int .i64 pd, .int .i64 pq, .string px] 33)) (b + 1) v (KP j).length (kcs (KP j)) := O1.out.below ((Below.refl _ _).alloc (Nat.le_refl _) _)
      have K2 : Hid (Bk (v2.alloc (.cells #[.int .i64 ps', .int .i64 pd, .int .i64 pq, .string px] 33)) b (pj j2) 64) := K1.out.alloc _
      have B2 : Hid (Below b w4 (v2.alloc (.cells #[.int .i64 ps', .int .i64 pd, .int .i64 pq, .string px] 33))) := B1.out.alloc (Nat.le_of_lt hbz2) _
      have R2 : Rd (v2.alloc (.cells #[.int .i64 ps', .int .i64 pd, .int .i64 pq, .string px] 33)) (some ⟨v2.heap.size, 0, none⟩) (kcs [⟨ps', pd, pq, px⟩]) := fun j u hj => ⟨v2.heap.size, 0, rfl, (Bk.new v2 #[.int .i64 ps', .int .i64 pd, .int .i64 pq, .string px] 33).lt, by
        rw [Nat.zero_add, (Bk.new v2 #[.int .i64 ps', .int .i64 pd, .int .i64 pq, .string px] 33).cell j]
        simpa [kcs] using hj⟩
      have hl6 : (KP j).length + 1 ≤ 1000000 := by omega
      have hs6 : b + 1 ≤ (v2.alloc (.cells #[.int .i64 ps', .int .i64 pd, .int .i64 pq, .string px] 33)).heap.size := K2.out.lt
      have O2h : Hid (OwnK 33 4 (v2.alloc (.cells #[.int .i64 ps', .int .i64 pd, .int .i64 pq, .string px] 33)) (b + 1) v (KP j).length (kcs (KP j))) := O2
      go_upto_region 8 with (at_builtin; go_loud (refine wpList_app_rowk rfl (.tmp 110) (.tmp 112) 25 33 i5 (.agg #[.int .i64 0, .int .i64 0, .int .i64 0, .string ⟨#[]⟩]) 4 40 rfl Try.underlying25 k5 y0 y1 y2 rfl (by decide) (by decide) (b + 1) (v2.alloc (.cells #[.int .i64 ps', .int .i64 pd, .int .i64 pq, .string px] 33)) v (KP j).length (kcs (KP j)) rfl O2 v2.heap.size 0 1 1 rfl (kcs [⟨ps', pd, pq, px⟩]) rfl R2 (kcs_one _) hl6 hs6 ?_; intro v' w7 o7 g7))
      have m1 : v.ownBlock ≠ some b := fun h => by have := (O2h.out.lt h).1; omega
      have m2 : ∀ r, v.ownBlock = some r → b ≤ r := fun r h => by have := (O2h.out.lt h).1; omega
      have K3 : Hid (Bk w7 b (pj j2) 64) := K2.out.kept g7 m1
      have B3 : Hid (Below b w4 w7) := Below.grown B2.out g7 (Nat.le_of_lt (Nat.lt_of_succ_le hs6)) m2
      have O3 : Hid (OwnK 33 4 w7 (b + 1) v' (KP (j + 1)).length (kcs (KP (j + 1)))) := by
        rw [HP2.out, if_pos rfl, kcs_app, List.length_append]
        exact o7
      clear o7 g7 O2 K2 B2 R2 hl6 hs6 O2h d0 d1 d2 d3 P1
      go_wp2
      go_roundw
      case rel => exact ⟨j + 1, by omega, by go_num, by rw [HJ2.out]; exact K3.out, O3.out, B3.out⟩
      case measure => simp [RowKit.intOf]; omega
    subst he
    rw [if_neg (by simp)] at hT0
    by_cases h1 : fk = 1
    · subst h1
      cases sb
      · have hT : TK ⟨false, ss, sd, sq, sx, sn⟩ odd = (⟨true, fs, fd, fq, ByteArray.empty, fl⟩, zpk, false, 0) := by rw [hT0]; rfl
        clear hT0
        have CC := TC ⟨false, ss, sd, sq, sx, sn⟩ odd HOD.out hxs b v1 HJ.out
        rw [hT] at CC
        simp only [pkv, pkc] at CC
        clear hT
        go_upto_region 15 with (go_at_call 11; (with_reducible refine CC.mono ?_); rintro e w6 ⟨rfl, hk6, hg6⟩)
        have F6 := (FN.out.gb hg6 (by omega)).alloc (.cells #[.int .i64 0, .int .i64 0, .int .i64 0, .string ByteArray.empty] 33)
        have d6 := F6.cell 0
        simp only [List.getElem?_toArray, List.getElem?_cons_zero] at d6
        have X6 : Hid (Below w.heap.size w (w6.alloc (.cells #[.int .i64 0, .int .i64 0, .int .i64 0, .string ByteArray.empty] 33))) := (below_gb HX9.out hg6 (by rw [← HBB.out]; exact HB4.out.size) HX9.out.size).alloc (Nat.le_trans HX9.out.size hg6.size) _
        clear CC HJ HO HB HX9 hk6 hg6 FN d0 F6
        generalize w6.alloc (.cells #[.int .i64 0, .int .i64 0, .int .i64 0, .string ByteArray.empty] 33) = v6 at *
        go_wp2
        go_ret
        exact ⟨rfl, X6.out⟩
      · have hT : TK ⟨true, ss, sd, sq, sx, sn⟩ odd = (⟨true, ss, sd, sq, sx, sn⟩, zpk, false, 13) := by rw [hT0]; rfl
        clear hT0 FN
        have CC := TC ⟨true, ss, sd, sq, sx, sn⟩ odd HOD.out hxs b v1 HJ.out
        rw [hT] at CC
        simp only [pkv, pkc] at CC
        clear hT
        go_upto_region 14 with (go_at_call 11; (with_reducible refine CC.mono ?_); rintro e w6 ⟨rfl, hk6, hg6⟩)
        have m1 : v.ownBlock ≠ some b := fun h => by have := (HO.out.lt h).1; omega
        have JX : Hid (Bk (w6.alloc (.cells #[.int .i64 0, .int .i64 0, .int .i64 0, .string ByteArray.empty] 33)) b (pj ⟨true, ss, sd, sq, sx, sn⟩) 64) := hk6.alloc _
        have OX : Hid (OwnK 33 4 (w6.alloc (.cells #[.int .i64 0, .int .i64 0, .int .i64 0, .string ByteArray.empty] 33)) (b + 1) v (KP j).length (kcs (KP j))) := (HO.out.gb hg6 m1).below ((Below.refl _ _).alloc (Nat.le_refl _) _)
        have BX : Hid (Below b w4 (w6.alloc (.cells #[.int .i64 0, .int .i64 0, .int .i64 0, .string ByteArray.empty] 33))) := (below_gb HB.out hg6 (Nat.le_refl _) (Nat.le_of_lt hbz)).alloc (Nat.le_trans (Nat.le_of_lt hbz) hg6.size) _
        have hbz2 := JX.out.lt
        clear CC HJ HO HB hk6 hg6 m1 hbz d0 HX9
        generalize w6.alloc (.cells #[.int .i64 0, .int .i64 0, .int .i64 0, .string ByteArray.empty] 33) = wc at *
        have BC2 := begun_any JX.out
        have HC2 := has_any JX.out
        go_upto_region 18 with (first
          | (go_at_call 13; (with_reducible refine BC2.mono ?_); rintro e w8 ⟨rfl, rfl⟩)
          | (go_at_call 14; (with_reducible refine HC2.mono ?_); rintro e w8 ⟨rfl, rfl⟩))
        have HJ : Hid (Bk wc b (pj (SJ j)) 64) := by rw [HSJ.out]; exact JX.out
        have HO := OX
        have HB := BX
        have hbz := hbz2
        have HX9 : Hid True := trivial
        clear BC2 HC2 JX OX BX hbz2 HOD HTK HSJ
        obtain ⟨W, hW, hW2, h0, h1, h2⟩ := HS.out j hlt
        obtain ⟨g, o, rfl, hg, c0'⟩ := HW4.out j _ hW
        have hgb : g < b := by rw [← HBB.out]; exact hg
        have c0 := (HB.out.cell (p := ⟨g, o + j, none⟩) hgb).trans c0'
        have hpn := HP.out j
        have CC := TC (SJ j) W hW2 (Nat.le_trans (HX.out j) (by omega)) b wc HJ.out
        obtain ⟨r, hr⟩ : ∃ r, TK (SJ j) W = r := ⟨_, rfl⟩
        rw [hr] at CC h0 h1 h2
        clear hr hW hW2 c0' hg HX9
        obtain ⟨j2, ⟨ps', pd, pq, px⟩, pb, pe⟩ := r
        simp only at h0 h1 h2
        subst h0
        have HJ2 : Hid (SJ (j + 1) = j2) := h1
        have HP2 : Hid (KP (j + 1) = KP j ++ (if pb = true then [⟨ps', pd, pq, px⟩] else [])) := h2
        clear h1 h2
        simp only [pkv, pkc] at CC
        go_upto_region 19 with (go_at_call 11; (with_reducible refine CC.mono ?_); rintro e w2' ⟨rfl, hk2, hg2⟩)
        have K1 : Hid (Bk (w2'.alloc (.cells #[.int .i64 ps', .int .i64 pd, .int .i64 pq, .string px] 33)) b (pj j2) 64) := hk2.alloc _
        have m1 : v.ownBlock ≠ some b := fun h => by have := (HO.out.lt h).1; omega
        have O1 : Hid (OwnK 33 4 (w2'.alloc (.cells #[.int .i64 ps', .int .i64 pd, .int .i64 pq, .string px] 33)) (b + 1) v (KP j).length (kcs (KP j))) := (HO.out.gb hg2 m1).below ((Below.refl _ _).alloc (Nat.le_refl _) _)
        have B1 : Hid (Below b w4 (w2'.alloc (.cells #[.int .i64 ps', .int .i64 pd, .int .i64 pq, .string px] 33))) := (below_gb HB.out hg2 (Nat.le_refl _) (Nat.le_of_lt hbz)).alloc (Nat.le_trans (Nat.le_of_lt hbz) hg2.size) _
        have P1 : Hid (Bk (w2'.alloc (.cells #[.int .i64 ps', .int .i64 pd, .int .i64 pq, .string px] 33)) w2'.heap.size #[.int .i64 ps', .int .i64 pd, .int .i64 pq, .string px] 33) := Bk.new _ _ _
        have hbz2 : b < (w2'.alloc (.cells #[.int .i64 ps', .int .i64 pd, .int .i64 pq, .string px] 33)).heap.size := K1.out.lt
        have hbf : b < w2'.heap.size := Nat.lt_of_lt_of_le hbz hg2.size
        clear CC HJ HO HB hk2 hg2 c0 m1 hbz
        generalize w2'.alloc (.cells #[.int .i64 ps', .int .i64 pd, .int .i64 pq, .string px] 33) = v2 at *
        generalize w2'.heap.size = c at *
        have d0 := P1.out.cell 0
        have d1 := P1.out.cell 1
        have d2 := P1.out.cell 2
        have d3 := P1.out.cell 3
        simp only [List.getElem?_toArray, List.getElem?_cons_zero, List.getElem?_cons_succ] at d0 d1 d2 d3
        cases pb
        · go_wp2
          go_roundw
          case rel => exact ⟨j + 1, by omega, by go_num, by rw [HJ2.out]; exact K1.out, by rw [HP2.out, if_neg (by decide), List.append_nil]; exact O1.out, B1.out⟩
          case measure => simp [RowKit.intOf]; omega
        have O2 : OwnK 33 4 (v2.alloc (.cells #[.int .i64 ps', .int .i64 pd, .int .i64 pq, .string px] 33)) (b + 1) v (KP j).length (kcs (KP j)) := O1.out.below ((Below.refl _ _).alloc (Nat.le_refl _) _)
        have K2 : Hid (Bk (v2.alloc (.cells #[.int .i64 ps', .int .i64 pd, .int .i64 pq, .string px] 33)) b (pj j2) 64) := K1.out.alloc _
        have B2 : Hid (Below b w4 (v2.alloc (.cells #[.int .i64 ps', .int .i64 pd, .int .i64 pq, .string px] 33))) := B1.out.alloc (Nat.le_of_lt hbz2) _
        have R2 : Rd (v2.alloc (.cells #[.int .i64 ps', .int .i64 pd, .int .i64 pq, .string px] 33)) (some ⟨v2.heap.size, 0, none⟩) (kcs [⟨ps', pd, pq, px⟩]) := fun j u hj => ⟨v2.heap.size, 0, rfl, (Bk.new v2 #[.int .i64 ps', .int .i64 pd, .int .i64 pq, .string px] 33).lt, by
          rw [Nat.zero_add, (Bk.new v2 #[.int .i64 ps', .int .i64 pd, .int .i64 pq, .string px] 33).cell j]
          simpa [kcs] using hj⟩
        have hl6 : (KP j).length + 1 ≤ 1000000 := by omega
        have hs6 : b + 1 ≤ (v2.alloc (.cells #[.int .i64 ps', .int .i64 pd, .int .i64 pq, .string px] 33)).heap.size := K2.out.lt
        have O2h : Hid (OwnK 33 4 (v2.alloc (.cells #[.int .i64 ps', .int .i64 pd, .int .i64 pq, .string px] 33)) (b + 1) v (KP j).length (kcs (KP j))) := O2
        go_upto_region 8 with (at_builtin; go_loud (refine wpList_app_rowk rfl (.tmp 110) (.tmp 112) 25 33 i5 (.agg #[.int .i64 0, .int .i64 0, .int .i64 0, .string ⟨#[]⟩]) 4 40 rfl Try.underlying25 k5 y0 y1 y2 rfl (by decide) (by decide) (b + 1) (v2.alloc (.cells #[.int .i64 ps', .int .i64 pd, .int .i64 pq, .string px] 33)) v (KP j).length (kcs (KP j)) rfl O2 v2.heap.size 0 1 1 rfl (kcs [⟨ps', pd, pq, px⟩]) rfl R2 (kcs_one _) hl6 hs6 ?_; intro v' w7 o7 g7))
        have m1 : v.ownBlock ≠ some b := fun h => by have := (O2h.out.lt h).1; omega
        have m2 : ∀ r, v.ownBlock = some r → b ≤ r := fun r h => by have := (O2h.out.lt h).1; omega
        have K3 : Hid (Bk w7 b (pj j2) 64) := K2.out.kept g7 m1
        have B3 : Hid (Below b w4 w7) := Below.grown B2.out g7 (Nat.le_of_lt (Nat.lt_of_succ_le hs6)) m2
        have O3 : Hid (OwnK 33 4 w7 (b + 1) v' (KP (j + 1)).length (kcs (KP (j + 1)))) := by
          rw [HP2.out, if_pos rfl, kcs_app, List.length_append]
          exact o7
        clear o7 g7 O2 K2 B2 R2 hl6 hs6 O2h d0 d1 d2 d3 P1
        go_wp2
        go_roundw
        case rel => exact ⟨j + 1, by omega, by go_num, by rw [HJ2.out]; exact K3.out, O3.out, B3.out⟩
        case measure => simp [RowKit.intOf]; omega
    · have h1b : (fk != 1) = true := by simpa using h1
      cases sb
      · have hT : TK ⟨false, ss, sd, sq, sx, sn⟩ odd = (⟨false, ss, sd, sq, sx, sn⟩, zpk, false, 13) := by rw [hT0, if_pos (decide_eq_false h1)]
        clear hT0 FN
        have CC := TC ⟨false, ss, sd, sq, sx, sn⟩ odd HOD.out hxs b v1 HJ.out
        rw [hT] at CC
        simp only [pkv, pkc] at CC
        clear hT
        go_upto_region 14 with (go_at_call 11; (with_reducible refine CC.mono ?_); rintro e w6 ⟨rfl, hk6, hg6⟩)
        have m1 : v.ownBlock ≠ some b := fun h => by have := (HO.out.lt h).1; omega
        have JX : Hid (Bk (w6.alloc (.cells #[.int .i64 0, .int .i64 0, .int .i64 0, .string ByteArray.empty] 33)) b (pj ⟨false, ss, sd, sq, sx, sn⟩) 64) := hk6.alloc _
        have OX : Hid (OwnK 33 4 (w6.alloc (.cells #[.int .i64 0, .int .i64 0, .int .i64 0, .string ByteArray.empty] 33)) (b + 1) v (KP j).length (kcs (KP j))) := (HO.out.gb hg6 m1).below ((Below.refl _ _).alloc (Nat.le_refl _) _)
        have BX : Hid (Below b w4 (w6.alloc (.cells #[.int .i64 0, .int .i64 0, .int .i64 0, .string ByteArray.empty] 33))) := (below_gb HB.out hg6 (Nat.le_refl _) (Nat.le_of_lt hbz)).alloc (Nat.le_trans (Nat.le_of_lt hbz) hg6.size) _
        have hbz2 := JX.out.lt
        clear CC HJ HO HB hk6 hg6 m1 hbz d0 HX9
        generalize w6.alloc (.cells #[.int .i64 0, .int .i64 0, .int .i64 0, .string ByteArray.empty] 33) = wc at *
        have BC2 := begun_any JX.out
        have HC2 := has_any JX.out
        go_upto_region 18 with (first
          | (go_at_call 13; (with_reducible refine BC2.mono ?_); rintro e w8 ⟨rfl, rfl⟩)
          | (go_at_call 14; (with_reducible refine HC2.mono ?_); rintro e w8 ⟨rfl, rfl⟩))
        have HJ : Hid (Bk wc b (pj (SJ j)) 64) := by rw [HSJ.out]; exact JX.out
        have HO := OX
        have HB := BX
        have hbz := hbz2
        have HX9 : Hid True := trivial
        clear BC2 HC2 JX OX BX hbz2 HOD HTK HSJ
        obtain ⟨W, hW, hW2, h0, h1, h2⟩ := HS.out j hlt
        obtain ⟨g, o, rfl, hg, c0'⟩ := HW4.out j _ hW
        have hgb : g < b := by rw [← HBB.out]; exact hg
        have c0 := (HB.out.cell (p := ⟨g, o + j, none⟩) hgb).trans c0'
        have hpn := HP.out j
        have CC := TC (SJ j) W hW2 (Nat.le_trans (HX.out j) (by omega)) b wc HJ.out
        obtain ⟨r, hr⟩ : ∃ r, TK (SJ j) W = r := ⟨_, rfl⟩
        rw [hr] at CC h0 h1 h2
        clear hr hW hW2 c0' hg HX9
        obtain ⟨j2, ⟨ps', pd, pq, px⟩, pb, pe⟩ := r
        simp only at h0 h1 h2
        subst h0
        have HJ2 : Hid (SJ (j + 1) = j2) := h1
        have HP2 : Hid (KP (j + 1) = KP j ++ (if pb = true then [⟨ps', pd, pq, px⟩] else [])) := h2
        clear h1 h2
        simp only [pkv, pkc] at CC
        go_upto_region 19 with (go_at_call 11; (with_reducible refine CC.mono ?_); rintro e w2' ⟨rfl, hk2, hg2⟩)
        have K1 : Hid (Bk (w2'.alloc (.cells #[.int .i64 ps', .int .i64 pd, .int .i64 pq, .string px] 33)) b (pj j2) 64) := hk2.alloc _
        have m1 : v.ownBlock ≠ some b := fun h => by have := (HO.out.lt h).1; omega
        have O1 : Hid (OwnK 33 4 (w2'.alloc (.cells #[.int .i64 ps', .int .i64 pd, .int .i64 pq, .string px] 33)) (b + 1) v (KP j).length (kcs (KP j))) := (HO.out.gb hg2 m1).below ((Below.refl _ _).alloc (Nat.le_refl _) _)
        have B1 : Hid (Below b w4 (w2'.alloc (.cells #[.int .i64 ps', .int .i64 pd, .int .i64 pq, .string px] 33))) := (below_gb HB.out hg2 (Nat.le_refl _) (Nat.le_of_lt hbz)).alloc (Nat.le_trans (Nat.le_of_lt hbz) hg2.size) _
        have P1 : Hid (Bk (w2'.alloc (.cells #[.int .i64 ps', .int .i64 pd, .int .i64 pq, .string px] 33)) w2'.heap.size #[.int .i64 ps', .int .i64 pd, .int .i64 pq, .string px] 33) := Bk.new _ _ _
        have hbz2 : b < (w2'.alloc (.cells #[.int .i64 ps', .int .i64 pd, .int .i64 pq, .string px] 33)).heap.size := K1.out.lt
        have hbf : b < w2'.heap.size := Nat.lt_of_lt_of_le hbz hg2.size
        clear CC HJ HO HB hk2 hg2 c0 m1 hbz
        generalize w2'.alloc (.cells #[.int .i64 ps', .int .i64 pd, .int .i64 pq, .string px] 33) = v2 at *
        generalize w2'.heap.size = c at *
        have d0 := P1.out.cell 0
        have d1 := P1.out.cell 1
        have d2 := P1.out.cell 2
        have d3 := P1.out.cell 3
        simp only [List.getElem?_toArray, List.getElem?_cons_zero, List.getElem?_cons_succ] at d0 d1 d2 d3
        cases pb
        · go_wp2
          go_roundw
          case rel => exact ⟨j + 1, by omega, by go_num, by rw [HJ2.out]; exact K1.out, by rw [HP2.out, if_neg (by decide), List.append_nil]; exact O1.out, B1.out⟩
          case measure => simp [RowKit.intOf]; omega
        have O2 : OwnK 33 4 (v2.alloc (.cells #[.int .i64 ps', .int .i64 pd, .int .i64 pq, .string px] 33)) (b + 1) v (KP j).length (kcs (KP j)) := O1.out.below ((Below.refl _ _).alloc (Nat.le_refl _) _)
        have K2 : Hid (Bk (v2.alloc (.cells #[.int .i64 ps', .int .i64 pd, .int .i64 pq, .string px] 33)) b (pj j2) 64) := K1.out.alloc _
        have B2 : Hid (Below b w4 (v2.alloc (.cells #[.int .i64 ps', .int .i64 pd, .int .i64 pq, .string px] 33))) := B1.out.alloc (Nat.le_of_lt hbz2) _
        have R2 : Rd (v2.alloc (.cells #[.int .i64 ps', .int .i64 pd, .int .i64 pq, .string px] 33)) (some ⟨v2.heap.size, 0, none⟩) (kcs [⟨ps', pd, pq, px⟩]) := fun j u hj => ⟨v2.heap.size, 0, rfl, (Bk.new v2 #[.int .i64 ps', .int .i64 pd, .int .i64 pq, .string px] 33).lt, by
          rw [Nat.zero_add, (Bk.new v2 #[.int .i64 ps', .int .i64 pd, .int .i64 pq, .string px] 33).cell j]
          simpa [kcs] using hj⟩
        have hl6 : (KP j).length + 1 ≤ 1000000 := by omega
        have hs6 : b + 1 ≤ (v2.alloc (.cells #[.int .i64 ps', .int .i64 pd, .int .i64 pq, .string px] 33)).heap.size := K2.out.lt
        have O2h : Hid (OwnK 33 4 (v2.alloc (.cells #[.int .i64 ps', .int .i64 pd, .int .i64 pq, .string px] 33)) (b + 1) v (KP j).length (kcs (KP j))) := O2
        go_upto_region 8 with (at_builtin; go_loud (refine wpList_app_rowk rfl (.tmp 110) (.tmp 112) 25 33 i5 (.agg #[.int .i64 0, .int .i64 0, .int .i64 0, .string ⟨#[]⟩]) 4 40 rfl Try.underlying25 k5 y0 y1 y2 rfl (by decide) (by decide) (b + 1) (v2.alloc (.cells #[.int .i64 ps', .int .i64 pd, .int .i64 pq, .string px] 33)) v (KP j).length (kcs (KP j)) rfl O2 v2.heap.size 0 1 1 rfl (kcs [⟨ps', pd, pq, px⟩]) rfl R2 (kcs_one _) hl6 hs6 ?_; intro v' w7 o7 g7))
        have m1 : v.ownBlock ≠ some b := fun h => by have := (O2h.out.lt h).1; omega
        have m2 : ∀ r, v.ownBlock = some r → b ≤ r := fun r h => by have := (O2h.out.lt h).1; omega
        have K3 : Hid (Bk w7 b (pj j2) 64) := K2.out.kept g7 m1
        have B3 : Hid (Below b w4 w7) := Below.grown B2.out g7 (Nat.le_of_lt (Nat.lt_of_succ_le hs6)) m2
        have O3 : Hid (OwnK 33 4 w7 (b + 1) v' (KP (j + 1)).length (kcs (KP (j + 1)))) := by
          rw [HP2.out, if_pos rfl, kcs_app, List.length_append]
          exact o7
        clear o7 g7 O2 K2 B2 R2 hl6 hs6 O2h d0 d1 d2 d3 P1
        go_wp2
        go_roundw
        case rel => exact ⟨j + 1, by omega, by go_num, by rw [HJ2.out]; exact K3.out, O3.out, B3.out⟩
        case measure => simp [RowKit.intOf]; omega
      · clear hT0 FN
        generalize v1 = wc at *
        obtain ⟨pr1, pr2⟩ := HPR.out j
        obtain ⟨a3, cap3, rfl, hc3, hm3, rd3⟩ := HO.out.rd (by decide)
        have hk3 := (HK4.out.below (show Below w4.heap.size w4 wc by rw [HBB.out]; exact HB.out)).ktake (KP j).length
        rw [pr2] at hk3
        have SC1 := fun x y => samep_any true (KP j) (KP j) a3 a2 x y wc (by have := HP.out j; omega) (by have := HP.out j; omega) (by simp) rd3 hk3
        generalize (KP j).length = M at *
        have f1 : (M : Int) ≤ (m : Int) := by omega
        have f2 : (0 : Int) ≤ (M : Int) := by omega
        have f3 : (M : Int) ≤ (cap2 : Int) := by omega
        clear rd3 hk3 pr2 HJ HB HO HK4 HW4
        go_wp2_with (go_at_call 16; (with_reducible refine (SC1 _ _).mono ?_); rintro e w9 ⟨rfl, q, rfl⟩)
        go_ret
        exact ⟨rfl, dn HX9.out _⟩
end Go.Proofs.Ytockjijhckkicaa
