/-
  The walk of the document's example.
-/
import Derived.Test.YtkebplapjkefiaaDoorRead
namespace Go.Proofs.YtkebplapjkefiaaDoor
open Go.RowKit Go.Lib

def ex : Cf := ⟨4, 4, 2, 2, 4, 8, 4, true, true⟩
abbrev exT : L := [52, 120, 52, 32, 50, 32, 50, 32, 52, 32, 56, 32, 52, 32, 119, 101, 115, 116, 32, 99, 97, 115, 116]
theorem itoa_one (n : Nat) (h : n < 10) : itoa (n : Int) = [UInt8.ofNat (48 + n)] := by
  rw [itoa_nat _ (by omega)]
  exact decDigits_one h
theorem ex_txt : txt ex = exT := by
  have h4 := itoa_one 4 (by omega)
  have h2 := itoa_one 2 (by omega)
  have h8 := itoa_one 8 (by omega)
  unfold txt ex tailW tailC west cast
  rw [show (4 : Int) = ((4 : Nat) : Int) from rfl, show (2 : Int) = ((2 : Nat) : Int) from rfl, show (8 : Int) = ((8 : Nat) : Int) from rfl, h4, h2, h8]
  rfl
theorem ex_chk : chk ex = 0 := by decide
theorem ex_rd : rd exT = (ex, 0) := by rw [← ex_txt]; exact rd_txt ex ex_chk
theorem ex_cla : cla ex true = (1, 1) := by decide
theorem ex_nod : nod ex = 16 := by decide
theorem ex_in : In ex := bnd_in (fits_bnd (fits_of ex_chk))

set_option maxRecDepth 100000 in
set_option maxHeartbeats 1000000 in
theorem lives_any (w : World) (hE : Env w) : Calls Tryd.prog 8 #[] w fun e w' => e = .returned (.bool true) ∧ Below w.heap.size w w' := by
  have RD := read_any exT (by decide) w hE
  rw [ex_rd] at RD
  have CL := fun v => class_any ex true v
  rw [ex_cla] at CL
  have CK := fun v => check_any ex v
  rw [ex_chk] at CK
  have ND := fun v => nodes_any ex v
  rw [ex_nod] at ND
  have TX := fun v hv => text_any ex ex_in v hv
  rw [ex_txt] at TX
  have HE : Hid (Env w) := hE
  have h6 : 6 ≤ w.heap.size := hE.1
  clear hE
  unfold RdP at RD
  simp only [cfv, cfc, ex] at RD CL CK ND TX
  go_enter Tryd.func8, Tryd.ntmps8
  go_wp2_with fail
  go_at_call 17
  refine RD.mono ?_
  rintro e v1 ⟨rfl, hb⟩
  have HB1 : Hid (Below w.heap.size w v1) := hb
  have hz : w.heap.size ≤ v1.heap.size := hb.size
  clear hb RD
  go_wp2_with fail
  go_at_call 9
  refine (CL _).mono ?_
  rintro e v2 ⟨rfl, hb⟩
  have K2 : Hid (Blk v2 v1.heap.size ex) := (Blk.new v1 ex).below hb
  have HB2 : Hid (Below w.heap.size w v2) := (HB1.out.alloc hz _).trans (hb.mono (by simp; omega))
  obtain ⟨⟨x0, x1, x2, x3, x4, x5, x6, x7, x8⟩, -⟩ := K2.out.nine
  simp only [ex] at x0 x1 x2 x3 x4 x5 x6 x7 x8
  clear hb CL
  go_wp2_with fail
  go_at_call 11
  refine (CK _).mono ?_
  rintro e v3 ⟨rfl, hb⟩
  have K3 : Hid (Blk v3 v1.heap.size ex) := K2.out.below hb
  have HB3 : Hid (Below w.heap.size w v3) := HB2.out.trans (hb.mono HB2.out.size)
  clear x0 x1 x2 x3 x4 x5 x6 x7 x8 hb CK
  obtain ⟨⟨x0, x1, x2, x3, x4, x5, x6, x7, x8⟩, -⟩ := K3.out.nine
  simp only [ex] at x0 x1 x2 x3 x4 x5 x6 x7 x8
  go_wp2_with fail
  go_at_call 13
  refine (ND _).mono ?_
  rintro e v4 ⟨rfl, hb⟩
  have K4 : Hid (Blk v4 v1.heap.size ex) := K3.out.below hb
  have HB4 : Hid (Below w.heap.size w v4) := HB3.out.trans (hb.mono HB3.out.size)
  clear x0 x1 x2 x3 x4 x5 x6 x7 x8 hb ND
  obtain ⟨⟨x0, x1, x2, x3, x4, x5, x6, x7, x8⟩, -⟩ := K4.out.nine
  simp only [ex] at x0 x1 x2 x3 x4 x5 x6 x7 x8
  go_wp2_with fail
  go_at_call 15
  refine (TX _ (HE.out.below HB4.out h6)).mono ?_
  rintro e v5 ⟨rfl, hb⟩
  have HB5 : Hid (Below w.heap.size w v5) := HB4.out.trans (hb.mono HB4.out.size)
  clear x0 x1 x2 x3 x4 x5 x6 x7 x8 hb TX
  go_wp2
  go_ret
  exact ⟨rfl, HB5.out⟩
end Go.Proofs.YtkebplapjkefiaaDoor
