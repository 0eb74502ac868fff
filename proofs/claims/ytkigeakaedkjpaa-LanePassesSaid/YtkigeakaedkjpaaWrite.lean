/-
  The walk of flit.Write.
-/
import Derived.Test.YtkigeakaedkjpaaPackD
namespace Go.Proofs.Ytkigeakaedkjpaa
open Go.RowKit

theorem fpack_any (f : Fl) (h : f.rightB = true) (w : World) :
    Calls Try.prog 73 #[flv f] w fun e w' => e = .returned (.tuple #[.int .u64 ((packR f.sizes f.vals).1 : Nat), .int .i64 0]) ∧ Below w.heap.size w w' := by
  have h0 := right_pack h
  obtain ⟨k, s, d, q, l, m, c, x⟩ := f
  rcases right_forms h with ⟨h1, a1, a2, a3, a4, a5, a6, a7, a8, a9⟩ | ⟨hk2, b1, b2, b3, b4, b5, b6, hx⟩
  · simp only at h1 a1 a2 a3 a4 a5 a6 a7 a8 a9
    subst h1
    obtain ⟨s, rfl⟩ := Int.eq_ofNat_of_zero_le a1
    obtain ⟨d, rfl⟩ := Int.eq_ofNat_of_zero_le a3
    obtain ⟨q, rfl⟩ := Int.eq_ofNat_of_zero_le a5
    obtain ⟨l, rfl⟩ := Int.eq_ofNat_of_zero_le a7
    have e1 : (Fl.mk 1 s d q l m c x).sizes = Ytkigeakaedkjpaa.hs := by unfold Fl.sizes; rw [if_pos rfl]
    have e2 : (Fl.mk 1 s d q l m c x).vals = [1, s, d, q, l, bitN m, bitN c] := by unfold Fl.vals; rw [if_pos rfl]; rfl
    rw [e1, e2] at h0 ⊢
    have := packf_head s d q l m c x w (by omega) (by omega) (by omega) (by omega) _ rfl
    rw [h0] at this
    exact this
  · simp only at hk2 b1 b2 b3 b4 b5 b6 hx
    subst b1 b2 b3 b4 b5 b6
    obtain ⟨k, rfl⟩ := Int.eq_ofNat_of_zero_le (a := k) (by omega)
    have e1 : (Fl.mk k 0 0 0 0 false false x).sizes = ds x.size := by unfold Fl.sizes; rw [if_neg (by show ¬ (k : Int) = 1; omega)]
    have e2 : (Fl.mk k 0 0 0 0 false false x).vals = k :: x.size :: bytes x := by unfold Fl.vals; rw [if_neg (by show ¬ (k : Int) = 1; omega)]; rfl
    rw [e1, e2] at h0 ⊢
    have := packf_data k x.size x w (by omega) (by omega) rfl hx _ rfl
    rw [h0] at this
    exact this

set_option maxHeartbeats 800000 in
theorem fwrite_any (f : Fl) (w : World) : Calls Try.prog 64 #[flv f] w fun e w' => e = .returned (.tuple #[.int .u64 (f.wordR.1 : Nat), .int .i64 f.wordR.2]) ∧ Below w.heap.size w w' := by
  have hR := fright_any f (w.alloc (.cells (flc f) 49))
  rw [show (w.alloc (.cells (flc f) 49)).heap.size = w.heap.size + 1 by simp] at hR
  have HC : Hid (∀ w1, Below (w.heap.size + 1) (w.alloc (.cells (flc f) 49)) w1 → ∀ j, w1.cell? ⟨w.heap.size, j, none⟩ = (flc f)[j]?) := fun w1 h j => flit_cells f h j
  have B0 : Hid (∀ w1, Below (w.heap.size + 1) (w.alloc (.cells (flc f) 49)) w1 → Below w.heap.size w w1) := fun w1 h => below_box _ _ h
  by_cases h : f.rightB = true
  · have P := fun w => fpack_any f h w
    have e1 : f.wordR = (sealN (packR f.sizes f.vals).1, 0) := by unfold Fl.wordR; rw [if_pos h]; rfl
    have hlt := packR_lt f.sizes f.vals
    rw [e1]
    rw [h] at hR
    clear e1 h
    generalize (packR f.sizes f.vals).1 = p at *
    have S := fun w => seal_any p hlt w
    generalize sealN p = sp at *
    simp only [flv, flc] at *
    go_enter Try.func64, Try.ntmps64
    go_wp2_with fail
    go_at_call 72
    refine hR.mono ?_
    rintro e w1 ⟨rfl, hb⟩
    have hc := HC.out _ hb
    have c0 := hc 0
    have c1 := hc 1
    have c2 := hc 2
    have c3 := hc 3
    have c4 := hc 4
    have c5 := hc 5
    have c6 := hc 6
    have c7 := hc 7
    have HB : Hid (Below w.heap.size w w1) := B0.out _ hb
    have HZ : Hid (w.heap.size ≤ w1.heap.size) := HB.out.size
    clear hb hc hR
    simp at c0 c1 c2 c3 c4 c5 c6 c7
    go_wp2_with fail
    go_at_call 73
    refine (P _).mono ?_
    rintro e w2 ⟨rfl, hb2⟩
    have HB2 : Hid (Below w.heap.size w w2) := HB.out.trans (hb2.mono HZ.out)
    clear hb2 P c0 c1 c2 c3 c4 c5 c6 c7
    go_wp2_with (go_at_call 69; (with_reducible refine (S _).mono ?_); rintro e w' ⟨rfl, rfl⟩)
    go_ret2
    exact ⟨rfl, HB2.out⟩
  · have h' : f.rightB = false := by simpa using h
    have e1 : f.wordR = (0, 1) := by unfold Fl.wordR; rw [if_neg h]
    rw [e1]
    rw [h'] at hR
    clear e1 h h'
    simp only [flv, flc] at *
    go_enter Try.func64, Try.ntmps64
    go_wp2_with fail
    go_at_call 72
    refine hR.mono ?_
    rintro e w1 ⟨rfl, hb⟩
    have HB : Hid (Below w.heap.size w w1) := B0.out _ hb
    clear hb hR
    go_wp2
    go_ret2
    exact ⟨rfl, HB.out⟩
end Go.Proofs.Ytkigeakaedkjpaa
