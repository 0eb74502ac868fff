/-
  The walk of the document's Links.
-/
import Derived.Test.YthloamdffgcabaaDoorLinks
namespace Go.Proofs.YthloamdffgcabaaDoor
open Go.RowKit

set_option maxRecDepth 100000 in
set_option maxHeartbeats 2000000 in
theorem rlinks_any (c : Cf) (w : World) : Calls Tryd.prog 23 #[cfv c] w (RowP w (lks c)) := by
  obtain ⟨i0, ki, hz0, hz1, hz2⟩ := info_parts Tryd.info43
  have A0 : Hid (At w c (w.alloc (.cells (cfc c) 23))) := At.start w c
  have KN := rnodes_any c
  have KP := fun (k : Nat) v => rports_any c k v
  have Z := lkj_zero c
  have SN := lkj_snoc c
  have FU := lkj_full c
  have LE := lkj_length c
  have PL := fun k : Nat => prt_len c k
  have L0 : lksK c 0 = [] := rfl
  have hN := nod_in c
  unfold lks
  obtain ⟨N, hNN⟩ := Int.eq_ofNat_of_zero_le hN.1
  rw [hNN] at KN hN ⊢
  rw [show ((N : Int)).toNat = N by omega]
  have hN2 : N ≤ 4096 := by omega
  clear hNN hN
  generalize lkj c = J at *
  generalize lksK c = L at *
  generalize prt c = P at *
  obtain ⟨cw, ch, cl, cd, cr, ci, cb, we, ca⟩ := c
  simp only [cfv, cfc] at *
  go_enter Tryd.func23, Tryd.ntmps23
  go_wp2_with fail
  go_loopw [3, 4] (fun v i wr => ∃ k : Nat, k ≤ N ∧ i = .int .i64 k ∧ OwnP 43 wr (w.heap.size + 1) v (L k) ∧ At w ⟨cw, ch, cl, cd, cr, ci, cb, we, ca⟩ wr) (fun _ i _ => N - (RowKit.intOf i).toNat)
  case atStart => exact ⟨0, Nat.zero_le _, rfl, by rw [L0]; exact OwnP.nil _ _ _, A0.out⟩
  case round =>
    obtain ⟨k, hk, rfl, own, hat⟩ := hrel
    have hsz : w.heap.size + 1 ≤ wr.heap.size := hat.size
    obtain ⟨x0, x1, x2, x3, x4, x5, x6, x7, x8⟩ := hat.cells
    have hz : w.heap.size < wr.heap.size := by omega
    simp only at x0 x1 x2 x3 x4 x5 x6 x7 x8
    have HOWN : Hid (OwnP 43 wr (w.heap.size + 1) _ (L k)) := own
    have HAT : Hid (At w ⟨cw, ch, cl, cd, cr, ci, cb, we, ca⟩ wr) := hat
    clear own hat
    go_wp2_with fail
    go_at_call 33
    refine (KN _).mono ?_
    rintro e w0 ⟨rfl, hb⟩
    have own : OwnP 43 w0 (w.heap.size + 1) _ (L k) := HOWN.out.below hb
    have hat : At w ⟨cw, ch, cl, cd, cr, ci, cb, we, ca⟩ w0 := HAT.out.trans hb
    clear hb HOWN HAT x0 x1 x2 x3 x4 x5 x6 x7 x8 hz hsz
    have hsz : w.heap.size + 1 ≤ w0.heap.size := hat.size
    by_cases hlt : k < N
    · have hltz : (k : Int) < N := by omega
      have hkn : k ≤ 4096 := by omega
      obtain ⟨x0, x1, x2, x3, x4, x5, x6, x7, x8⟩ := hat.cells
      have hz : w.heap.size < w0.heap.size := by omega
      simp only at x0 x1 x2 x3 x4 x5 x6 x7 x8
      have K := KP k w0
      rw [← Z k] at own
      have HOWN : Hid (OwnP 43 w0 (w.heap.size + 1) _ (J k 0)) := own
      have HAT : Hid (At w ⟨cw, ch, cl, cd, cr, ci, cb, we, ca⟩ w0) := hat
      have SN := SN k
      have FU := FU k
      have LE := fun j => LE k j hkn
      have PL := PL k
      clear own hat KP Z
      generalize P k = R at *
      generalize J k = Jk at *
      have HFU : Hid (Jk R.length = L (k + 1)) := FU
      clear FU
      go_wp2_with fail
      go_at_call 26
      refine K.mono ?_
      rintro e wa ⟨vp, rfl, ownp, hb⟩
      have own : OwnP 43 wa (w.heap.size + 1) _ (Jk 0) := HOWN.out.below hb
      have HAT2 : Hid (At w ⟨cw, ch, cl, cd, cr, ci, cb, we, ca⟩ wa) := HAT.out.trans hb
      obtain ⟨ap, capp, rfl, _, _, rdp⟩ := ownp.rd
      rw [vi_len] at *
      have HOP : Hid (Own 3 wa (w.heap.size + 1) (.slice ap R.length capp) (vi R)) := by
        have := ownp.mono hsz
        unfold Own at this ⊢
        rw [vi_len] at this ⊢
        exact this
      have hsa : w.heap.size + 1 ≤ wa.heap.size := HAT2.out.size
      have HO : Hid (OwnP 43 wa (w.heap.size + 1) _ (Jk 0)) := own
      clear hb HOWN HAT K x0 x1 x2 x3 x4 x5 x6 x7 x8 hz hsz ownp own rdp
      go_wp2_with fail
      go_loopw [3, 6] (fun v i wi => ∃ j : Nat, j ≤ R.length ∧ i = .int .i64 j ∧ OwnP 43 wi (w.heap.size + 1) v (Jk j) ∧ At w ⟨cw, ch, cl, cd, cr, ci, cb, we, ca⟩ wi ∧ Own 3 wi (w.heap.size + 1) (.slice ap R.length capp) (vi R)) (fun _ i _ => R.length - (RowKit.intOf i).toNat)
      case atStart => exact ⟨0, Nat.zero_le _, rfl, HO.out, HAT2.out, HOP.out⟩
      case round =>
        obtain ⟨j, hj, rfl, own2, hat2, op2⟩ := hrel
        have hsz2 : w.heap.size + 1 ≤ wr.heap.size := hat2.size
        by_cases hjl : j < R.length
        · have hjz : (j : Int) < R.length := by omega
          obtain ⟨ap', cap', e1, hc1, hc2, rd⟩ := op2.rd
          simp only [Value.slice.injEq] at e1
          obtain ⟨rfl, ez, rfl⟩ := e1
          clear ez
          rw [vi_len] at hc1
          obtain ⟨g, rfl, hg, hcell⟩ := rd j _ (vi_at hjl)
          have hsn := SN j hjl
          have hll := LE j
          generalize R.getD j 0 = p at *
          have HSN : Hid (Jk j ++ [((k : Int), p)] = Jk (j + 1)) := hsn
          generalize Jk j = LL at *
          have HAT3 : Hid (At w ⟨cw, ch, cl, cd, cr, ci, cb, we, ca⟩ wr) := hat2
          have HOP2 : Hid (Own 3 wr (w.heap.size + 1) (.slice (some ⟨g, 0, none⟩) R.length capp) (vi R)) := op2
          clear hsn hat2 op2 rd SN LE HOP HO HAT2
          go_wp2_with (at_builtin; refine wpList_app_pair rfl (.tmp 22) (.tmp 29) 38 43 i0 (.agg #[.int .i64 0, .int .i64 0]) 16 rfl Tryd.underlying38 ki hz0 hz1 hz2 rfl (by decide) (w.heap.size + 1) wr _ _ k p rfl own2 rfl hll hsz2 ?_; intro v1' wb o1 kb; have ab := At.of (kb.2.1 _ HAT3.out); have ob := kb.2.2.1 3 _ _ (by decide) HOP2.out; clear kb own2)
          rw [HSN.out] at o1
          go_roundw
          case rel => exact ⟨j + 1, by omega, by go_num, o1, ab, ob⟩
          case measure => simp [RowKit.intOf]; omega
        · obtain rfl : j = R.length := by omega
          have hjz : ¬ ((R.length : Int) < R.length) := by omega
          rw [HFU.out] at own2
          have HO2 : Hid (OwnP 43 wr (w.heap.size + 1) _ (L (k + 1))) := own2
          have HAT3 : Hid (At w ⟨cw, ch, cl, cd, cr, ci, cb, we, ca⟩ wr) := hat2
          clear own2 hat2 op2
          go_wp2
          go_roundw
          case rel => exact ⟨k + 1, by omega, by go_num, HO2.out, HAT3.out⟩
          case measure => simp [RowKit.intOf]; omega
    · obtain rfl : k = N := by omega
      have hltz : ¬ (k : Int) < k := by omega
      have HO : Hid (OwnP 43 w0 (w.heap.size + 1) _ (L k)) := own
      have HAT : Hid (At w ⟨cw, ch, cl, cd, cr, ci, cb, we, ca⟩ w0) := hat
      clear own hat
      go_wp2
      go_ret
      exact RowP.mk (HO.out.mono (by omega)) HAT.out.below
end Go.Proofs.YthloamdffgcabaaDoor
