/-
  The walk of ConfigReads.
-/
import Derived.Test.YtkebplapjkefiaaDoorEq
import Derived.Test.YtkebplapjkefiaaDoorRread
namespace Go.Proofs.YtkebplapjkefiaaDoor
open Go.RowKit Go.Lib

set_option maxRecDepth 100000 in
set_option maxHeartbeats 1000000 in
theorem configReads_any (S : ByteArray) (hs : S.size ≤ maxLen) (w : World) (hE : Env w) : Calls Tryd.prog 4 #[.string S] w fun e w' => e = .returned (.bool true) ∧ Below w.heap.size w w' := by
  have LV := lives_any w hE
  unfold maxLen at hs
  obtain ⟨X, hX, hl⟩ := cut_100 S
  have hlen : X.data.toList.length ≤ 100 := by rw [hl, List.length_take]; omega
  have RD := fun v hv => read_any X.data.toList (by omega) v hv
  have RR := fun v => rread_any X.data.toList (by omega) v
  rw [bs_data] at RD RR
  clear hl hlen
  generalize rd X.data.toList = r at *
  have HE : Hid (Env w) := hE
  have h6 : 6 ≤ w.heap.size := hE.1
  clear hE
  have G := Tryd.cfGuard
  have E := fun v => run_eq_cf r.1 r.1 v
  rw [Cf.eqB_self] at E
  unfold RdP at RD RR
  obtain ⟨c, n⟩ := r
  simp only at RD RR E
  obtain ⟨cw, ch, cl, cd, cr, ci, cb, we, ca⟩ := c
  simp only [cfv, cfc] at *
  go_enter Tryd.func4, Tryd.ntmps4
  go_wp2_with fail
  go_at_call 8
  refine LV.mono ?_
  rintro e v1 ⟨rfl, hb⟩
  have HB1 : Hid (Below w.heap.size w v1) := hb
  clear hb LV
  go_wp2_with fail
  go_at_call 17
  refine (RD _ (HE.out.below HB1.out h6)).mono ?_
  rintro e v2 ⟨rfl, hb⟩
  have HB2 : Hid (Below w.heap.size w v2) := HB1.out.trans (hb.mono HB1.out.size)
  have hz : w.heap.size ≤ v2.heap.size := HB2.out.size
  clear hb RD
  go_wp2_with fail
  go_at_call 18
  refine (RR _).mono ?_
  rintro e v3 ⟨rfl, hb⟩
  have K3 : Hid (Blk v3 v2.heap.size ⟨cw, ch, cl, cd, cr, ci, cb, we, ca⟩) := (Blk.new v2 ⟨cw, ch, cl, cd, cr, ci, cb, we, ca⟩).below hb
  have HB3 : Hid (Below w.heap.size w v3) := (HB2.out.alloc hz (.cells (cfc ⟨cw, ch, cl, cd, cr, ci, cb, we, ca⟩) 23)).trans (hb.mono (by simp; omega))
  obtain ⟨⟨x0, x1, x2, x3, x4, x5, x6, x7, x8⟩, -⟩ := K3.out.nine
  have hz3 : v2.heap.size < v3.heap.size := K3.out.lt
  have hz4 : w.heap.size ≤ v3.heap.size := by omega
  clear hb RR
  go_wp2
  go_ret
  exact ⟨rfl, HB3.out.alloc hz4 _⟩
end Go.Proofs.YtkebplapjkefiaaDoor
