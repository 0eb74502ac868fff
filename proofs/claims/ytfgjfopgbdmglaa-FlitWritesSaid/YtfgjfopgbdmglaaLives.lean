/-
  The walks of lives and few.
-/
import Derived.Test.YtfgjfopgbdmglaaRread
namespace Go.Proofs.Ytfgjfopgbdmglaa
open Go.RowKit

def fa : Fl := ⟨3, 0, 0, 0, 0, false, false, ⟨#[97, 98]⟩⟩
theorem fa_right : fa.rightB = true := by
  rw [fl_right_three rfl, fl_only_iff]
  rfl

set_option maxHeartbeats 800000 in
theorem lives_any (w : World) : Calls Try.prog 8 #[] w fun e w' => e = .returned (.bool true) ∧ Below w.heap.size w w' := by
  have Wr := fun w => fwrite_any fa w
  have ew : fa.wordR = (fa.word, 0) := by unfold Fl.wordR; rw [if_pos fa_right]
  rw [ew] at Wr
  have hlt := word_lt fa
  have Re := fun w => fread_any fa.word hlt w
  rw [readR_word fa_right] at Re
  have K := fun w => kind_drew fa.word hlt w
  rw [word_kind fa_right] at K
  have Ri := fun w => right_any fa.word hlt w
  rw [decide_eq_true (word_right fa)] at Ri
  clear ew
  generalize fa.word = p at *
  simp only [fa, flv, flc] at *
  go_enter Try.func8, Try.ntmps8
  go_wp2_with fail
  go_at_call 10
  refine (Wr _).mono ?_
  rintro e w1 ⟨rfl, hb1⟩
  have HB1 : Hid (Below w.heap.size w w1) := hb1
  clear hb1 Wr
  go_wp2_with fail
  go_at_call 16
  refine (Re _).mono ?_
  rintro e w2 ⟨rfl, hb2⟩
  have HB2 : Hid (Below w.heap.size w w2) := HB1.out.trans (hb2.mono HB1.out.size)
  clear hb2 Re
  go_wp2_with (first
    | (go_at_call 18; (with_reducible refine (K _).mono ?_); rintro e w' ⟨rfl, n3, rfl⟩)
    | (go_at_call 19; (with_reducible refine (Ri _).mono ?_); rintro e w' ⟨rfl, rfl⟩))
  go_ret
  exact ⟨rfl, below_drewN (HB2.out.alloc HB2.out.size _) _⟩

def fewX (x : ByteArray) : ByteArray := if x.size ≤ 10 then x else x.extract 0 10
theorem fewX_size (x : ByteArray) : (fewX x).size ≤ 10 := by
  unfold fewX
  split
  · assumption
  · rw [ByteArray.size_extract]; omega
def fewF (f : Fl) : Fl := ⟨f.k, f.s, f.d, f.q, f.l, f.m, f.c, fewX f.x⟩

theorem few_any (f : Fl) (hx : f.x.size ≤ maxLen) (w : World) : Calls Try.prog 9 #[flv f] w fun e w' => e = .returned (flv (fewF f)) ∧ w' = (w.alloc (.cells (flc (fewF f)) 23)).alloc (.cells (flc (fewF f)) 23) := by
  unfold maxLen at hx
  have e : fewF f = ⟨f.k, f.s, f.d, f.q, f.l, f.m, f.c, fewX f.x⟩ := rfl
  simp only [flv, flc, e] at *
  rcases (by omega : f.x.size ≤ 10 ∨ 10 < f.x.size) with h | h
  · have e2 : fewX f.x = f.x := by unfold fewX; rw [if_pos h]
    rw [e2]
    clear e e2
    go_enter Try.func9, Try.ntmps9
    go_wp2
    exact bodyPost_ret (v := .agg #[.int .i64 f.k, .int .i64 f.s, .int .i64 f.d, .int .i64 f.q, .int .i64 f.l, .bool f.m, .bool f.c, .string f.x]) (by simp [results, Try.results9, go_sem]) rfl ⟨rfl, rfl⟩
  · have e2 : fewX f.x = f.x.extract 0 10 := by unfold fewX; rw [if_neg (by omega)]
    rw [e2]
    clear e e2
    go_enter Try.func9, Try.ntmps9
    go_wp2
    exact bodyPost_ret (v := .agg #[.int .i64 f.k, .int .i64 f.s, .int .i64 f.d, .int .i64 f.q, .int .i64 f.l, .bool f.m, .bool f.c, .string (f.x.extract 0 10)]) (by simp [results, Try.results9, go_sem]) rfl ⟨rfl, rfl⟩
end Go.Proofs.Ytfgjfopgbdmglaa
