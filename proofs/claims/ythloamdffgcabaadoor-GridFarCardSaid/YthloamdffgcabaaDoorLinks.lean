/-
  The walk of Links.
-/
import Derived.Test.YthloamdffgcabaaDoorPairs
namespace Go.Proofs.YthloamdffgcabaaDoor
open Go.RowKit

theorem Tryd.info43 : (Tryd.prog.info? 43).map (fun i => (i.zero, i.size, i.bytes)) = some (some (.agg #[.int .i64 0, .int .i64 0]), 2, 16) := by kernel_rfl

/-- A list of pairs is answered, in new memory. -/
def RowP (w : World) (l : List (Int × Int)) (e : Ending) (w' : World) : Prop := ∃ v, e = .returned v ∧ OwnP 43 w' w.heap.size v l ∧ Below w.heap.size w w'
theorem RowP.mk {w w' : World} {l : List (Int × Int)} {v : Value} (h : OwnP 43 w' w.heap.size v l) (hb : Below w.heap.size w w') : RowP w l (.returned v) w' := ⟨v, rfl, h, hb⟩

/-- The channels of node k, up to the j-th. -/
def lkj (c : Cf) (k j : Nat) : List (Int × Int) := lksK c k ++ ((prt c k).take j).map fun p => ((k : Int), p)
theorem lkj_zero (c : Cf) (k : Nat) : lkj c k 0 = lksK c k := by simp [lkj]
theorem lkj_snoc (c : Cf) (k j : Nat) (h : j < (prt c k).length) : lkj c k j ++ [((k : Int), (prt c k).getD j 0)] = lkj c k (j + 1) := by
  have e : (prt c k).take (j + 1) = (prt c k).take j ++ [(prt c k).getD j 0] := by
    rw [List.take_add_one]
    simp [List.getElem?_eq_getElem h]
  unfold lkj
  rw [e, List.map_append, ← List.append_assoc]
  rfl
theorem lkj_full (c : Cf) (k : Nat) : lkj c k (prt c k).length = lksK c (k + 1) := by
  unfold lkj
  rw [lksK_succ, List.take_length]
theorem lkj_length (c : Cf) (k j : Nat) (hk : k ≤ 4096) : (lkj c k j).length ≤ 1000000 := by
  unfold lkj
  rw [List.length_append, List.length_map, List.length_take]
  have := lksK_length c k
  have := prtK_length c k 5
  unfold prt
  omega
theorem prt_len (c : Cf) (n : Int) : (prt c n).length ≤ 5 := prtK_length c n 5

set_option maxRecDepth 100000 in
set_option maxHeartbeats 2000000 in
theorem links_any (c : Cf) (w : World) (hS : Steps w) : Calls Tryd.prog 22 #[cfv c] w (RowP w (lks c)) := by
  obtain ⟨i0, ki, hz0, hz1, hz2⟩ := info_parts Tryd.info43
  have A0 : Hid (At w c (w.alloc (.cells (cfc c) 23))) := At.start w c
  have HS : Hid (Steps w) := hS
  clear hS
  have KN := nodes_any c
  have KP := fun (k : Nat) v (h : Steps v) => ports_any c k v h
  have Z := lkj_zero c
  have SN := lkj_snoc c
  have FU := lkj_full c
  have LE := lkj_length c
  have PL := fun k : Nat => prt_len c k
  have L0 : lksK c 0 = [] := rfl
  have hN := nod_in c
  unfold lks
  obtain ⟨N, hNN⟩ := Int.eq_ofNat_of_zero_le hN.1
  rw [hNN] at KN hN ⊢
  rw [show ((N : Int)).toNat = N by omega]
  have hN2 : N ≤ 4096 := by omega
  clear hNN hN
  generalize lkj c = J at *
  generalize lksK c = L at *
  generalize prt c = P at *
  obtain ⟨cw, ch, cl, cd, cr, ci, cb, we, ca⟩ := c
  simp only [cfv, cfc] at *
  go_enter Tryd.func22, Tryd.ntmps22
  go_wp2_with fail
  go_at_call 34
  refine (KN _).mono ?_
  rintro e v0 ⟨rfl, hb⟩
  have HA : Hid (At w ⟨cw, ch, cl, cd, cr, ci, cb, we, ca⟩ v0) := A0.out.trans hb
  clear hb KN A0
  go_wp2_with fail
  go_loopw [3, 9] (fun v i wr => ∃ k : Nat, k ≤ N ∧ i = .int .i64 k ∧ OwnP 43 wr (w.heap.size + 1) v (L k) ∧ At w ⟨cw, ch, cl, cd, cr, ci, cb, we, ca⟩ wr) (fun _ i _ => N - (RowKit.intOf i).toNat)
  case atStart => exact ⟨0, Nat.zero_le _, rfl, by rw [L0]; exact OwnP.nil _ _ _, HA.out⟩
  case round =>
    obtain ⟨k, hk, rfl, own, hat⟩ := hrel
    have hsz : w.heap.size + 1 ≤ wr.heap.size := hat.size
    by_cases hlt : k < N
    · have hltz : (k : Int) < N := by omega
      have hkn : k ≤ 4096 := by omega
      obtain ⟨x0, x1, x2, x3, x4, x5, x6, x7, x8⟩ := hat.cells
      have hz : w.heap.size < wr.heap.size := by omega
      simp only at x0 x1 x2 x3 x4 x5 x6 x7 x8
      have K := KP k wr (hat.steps HS.out)
      rw [← Z k] at own
      have HOWN : Hid (OwnP 43 wr (w.heap.size + 1) _ (J k 0)) := own
      have HAT : Hid (At w ⟨cw, ch, cl, cd, cr, ci, cb, we, ca⟩ wr) := hat
      have SN := SN k
      have FU := FU k
      have LE := fun j => LE k j hkn
      have PL := PL k
      clear own hat KP Z
      generalize P k = R at *
      generalize J k = Jk at *
      have HFU : Hid (Jk R.length = L (k + 1)) := FU
      clear FU
      go_wp2_with fail
      go_at_call 25
      refine K.mono ?_
      rintro e wa ⟨vp, rfl, ownp, hb⟩
      have own : OwnP 43 wa (w.heap.size + 1) _ (Jk 0) := HOWN.out.below hb
      have HAT2 : Hid (At w ⟨cw, ch, cl, cd, cr, ci, cb, we, ca⟩ wa) := HAT.out.trans hb
      obtain ⟨ap, capp, rfl, _, _, rdp⟩ := ownp.rd
      rw [vi_len] at *
      have HOP : Hid (Own 3 wa (w.heap.size + 1) (.slice ap R.length capp) (vi R)) := by
        have := ownp.mono hsz
        unfold Own at this ⊢
        rw [vi_len] at this ⊢
        exact this
      have hsa : w.heap.size + 1 ≤ wa.heap.size := HAT2.out.size
      have HO : Hid (OwnP 43 wa (w.heap.size + 1) _ (Jk 0)) := own
      clear hb HOWN HAT K x0 x1 x2 x3 x4 x5 x6 x7 x8 hz hsz ownp own rdp
      go_wp2_with fail
      go_loopw [3, 16] (fun v i wi => ∃ j : Nat, j ≤ R.length ∧ i = .int .i64 j ∧ OwnP 43 wi (w.heap.size + 1) v (Jk j) ∧ At w ⟨cw, ch, cl, cd, cr, ci, cb, we, ca⟩ wi ∧ Own 3 wi (w.heap.size + 1) (.slice ap R.length capp) (vi R)) (fun _ i _ => R.length - (RowKit.intOf i).toNat)
      case atStart => exact ⟨0, Nat.zero_le _, rfl, HO.out, HAT2.out, HOP.out⟩
      case round =>
        obtain ⟨j, hj, rfl, own2, hat2, op2⟩ := hrel
        have hsz2 : w.heap.size + 1 ≤ wr.heap.size := hat2.size
        by_cases hjl : j < R.length
        · have hjz : (j : Int) < R.length := by omega
          obtain ⟨ap', cap', e1, hc1, hc2, rd⟩ := op2.rd
          simp only [Value.slice.injEq] at e1
          obtain ⟨rfl, ez, rfl⟩ := e1
          clear ez
          rw [vi_len] at hc1
          obtain ⟨g, rfl, hg, hcell⟩ := rd j _ (vi_at hjl)
          have hsn := SN j hjl
          have hll := LE j
          generalize R.getD j 0 = p at *
          have HSN : Hid (Jk j ++ [((k : Int), p)] = Jk (j + 1)) := hsn
          generalize Jk j = LL at *
          have HAT3 : Hid (At w ⟨cw, ch, cl, cd, cr, ci, cb, we, ca⟩ wr) := hat2
          have HOP2 : Hid (Own 3 wr (w.heap.size + 1) (.slice (some ⟨g, 0, none⟩) R.length capp) (vi R)) := op2
          clear hsn hat2 op2 rd SN LE HOP HO HAT2
          go_wp2_with (at_builtin; refine wpList_app_pair rfl (.tmp 20) (.tmp 24) 38 43 i0 (.agg #[.int .i64 0, .int .i64 0]) 16 rfl Tryd.underlying38 ki hz0 hz1 hz2 rfl (by decide) (w.heap.size + 1) wr _ _ k p rfl own2 rfl hll hsz2 ?_; intro v1' wb o1 kb; have ab := At.of (kb.2.1 _ HAT3.out); have ob := kb.2.2.1 3 _ _ (by decide) HOP2.out; clear kb own2)
          rw [HSN.out] at o1
          go_roundw
          case rel => exact ⟨j + 1, by omega, by go_num, o1, ab, ob⟩
          case measure => simp [RowKit.intOf]; omega
        · obtain rfl : j = R.length := by omega
          have hjz : ¬ ((R.length : Int) < R.length) := by omega
          rw [HFU.out] at own2
          have HO2 : Hid (OwnP 43 wr (w.heap.size + 1) _ (L (k + 1))) := own2
          have HAT3 : Hid (At w ⟨cw, ch, cl, cd, cr, ci, cb, we, ca⟩ wr) := hat2
          clear own2 hat2 op2
          go_wp2
          go_roundw
          case rel => exact ⟨k + 1, by omega, by go_num, HO2.out, HAT3.out⟩
          case measure => simp [RowKit.intOf]; omega
    · obtain rfl : k = N := by omega
      have hltz : ¬ (k : Int) < k := by omega
      have HO : Hid (OwnP 43 wr (w.heap.size + 1) _ (L k)) := own
      have HAT : Hid (At w ⟨cw, ch, cl, cd, cr, ci, cb, we, ca⟩ wr) := hat
      clear own hat
      go_wp2
      go_ret
      exact RowP.mk (HO.out.mono (by omega)) HAT.out.below
end Go.Proofs.YthloamdffgcabaaDoor
