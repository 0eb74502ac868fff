/-
  The walk of the document's own Write, at a Head.
-/
import Derived.Test.YtkigeakaedkjpaaWrite
namespace Go.Proofs.Ytkigeakaedkjpaa
open Go.RowKit

theorem below_two (w : World) (a b : Obj) : Below w.heap.size w ((w.alloc a).alloc b) := ((Below.refl _ _).alloc (Nat.le_refl _) _).alloc (by simp) _

theorem rpack_hs (X : World) (s d q l a b : Nat) (hs : s ≤ 4095) (hd : d ≤ 4095) (hq : q ≤ 65535) (hl : l ≤ 64) (ha : a < 2) (hb : b < 2) (p : Nat) (hR : packR Ytkigeakaedkjpaa.hs [1, s, d, q, l, a, b] = (p, 0)) :
    Calls Try.prog 58 #[.slice (some ⟨X.heap.size, 0, none⟩) 7 7, .slice (some ⟨X.heap.size + 1, 0, none⟩) 7 7] ((X.alloc hsO).alloc (hvO s d q l a b)).drew fun e w' =>
      e = .returned (.tuple #[.int .u64 p, .int .i64 0]) ∧ Drew ((X.alloc hsO).alloc (hvO s d q l a b)).drew w' := by
  have r1 : Rd ((X.alloc hsO).alloc (hvO s d q l a b)).drew (some ⟨X.heap.size, 0, none⟩) (vi Ytkigeakaedkjpaa.hs) := (rd_new X (vi Ytkigeakaedkjpaa.hs) 3).alloc (hvO s d q l a b)
  have r2 : Rd ((X.alloc hsO).alloc (hvO s d q l a b)).drew (some ⟨X.heap.size + 1, 0, none⟩) (vu [1, s, d, q, l, a, b]) := by
    have := rd_new (X.alloc hsO) (vu [1, s, d, q, l, a, b]) 65
    rw [show (X.alloc hsO).heap.size = X.heap.size + 1 by simp] at this
    exact this
  have := rpack_any _ _ _ 7 7 7 7 Ytkigeakaedkjpaa.hs [1, s, d, q, l, a, b] rfl rfl (by omega) (by omega) r1 r2 (small_head hs hd hq hl ha hb)
  rw [hR] at this
  exact this

set_option maxRecDepth 100000 in
set_option maxHeartbeats 1600000 in
theorem rwrite_head (s d q l : Nat) (m c : Bool) (x : ByteArray) (w : World) (hs : s ≤ 4095) (hd : d ≤ 4095) (hq : q ≤ 65535) (hl : l ≤ 64) (h : (Fl.mk 1 s d q l m c x).rightB = true) (p : Nat) (hp : packR Ytkigeakaedkjpaa.hs [1, s, d, q, l, bitN m, bitN c] = (p, 0)) :
    Calls Try.prog 42 #[flv ⟨1, s, d, q, l, m, c, x⟩] w fun e w' => e = .returned (.tuple #[.int .u64 (sealN p), .int .i64 0]) ∧ Below w.heap.size w w' := by
  have hR := rfright_any ⟨1, s, d, q, l, m, c, x⟩ (w.alloc (.cells (flc ⟨1, s, d, q, l, m, c, x⟩) 49))
  rw [show (w.alloc (.cells (flc ⟨1, s, d, q, l, m, c, x⟩) 49)).heap.size = w.heap.size + 1 by simp] at hR
  have HC : Hid (∀ w1, Below (w.heap.size + 1) (w.alloc (.cells (flc ⟨1, s, d, q, l, m, c, x⟩) 49)) w1 → ∀ j, w1.cell? ⟨w.heap.size, j, none⟩ = (flc ⟨1, s, d, q, l, m, c, x⟩)[j]?) := fun w1 h j => flit_cells _ h j
  have B0 : Hid (∀ w1, Below (w.heap.size + 1) (w.alloc (.cells (flc ⟨1, s, d, q, l, m, c, x⟩) 49)) w1 → Below w.heap.size w w1) := fun w1 h => below_box _ _ h
  rw [h] at hR
  have O := fun b w => one_any b w
  have P := fun X => rpack_hs X s d q l (bitN m) (bitN c) hs hd hq hl (bitN_lt _) (bitN_lt _) p hp
  have hplt := packR_lt Ytkigeakaedkjpaa.hs [1, s, d, q, l, bitN m, bitN c]
  rw [hp] at hplt
  have S := fun w => rseal_any p hplt w
  generalize sealN p = sp at *
  clear h hp
  have e1 : IntKind.u32.wrap (s : Int) = s := IntWalk.u32_in _ (by omega)
  have e2 : IntKind.u32.wrap (d : Int) = d := IntWalk.u32_in _ (by omega)
  have e3 : IntKind.u32.wrap (q : Int) = q := IntWalk.u32_in _ (by omega)
  have e4 : IntKind.u32.wrap (l : Int) = l := IntWalk.u32_in _ (by omega)
  simp only [flv, flc] at *
  go_enter Try.func42, Try.ntmps42
  go_wp2_with fail
  go_at_call 56
  refine hR.mono ?_
  rintro e w1 ⟨rfl, hb⟩
  have hc := HC.out _ hb
  have c0 := hc 0
  have c1 := hc 1
  have c2 := hc 2
  have c3 := hc 3
  have c4 := hc 4
  have c5 := hc 5
  have c6 := hc 6
  have c7 := hc 7
  have HB : Hid (Below w.heap.size w w1) := B0.out _ hb
  have hz : w.heap.size < w1.heap.size := by have := hb.size; simp at this; omega
  clear hb hc hR
  simp at c0 c1 c2 c3 c4 c5 c6 c7
  go_wp2_with fail
  go_region_held3 (fun w' => w'.cell? ⟨w.heap.size, 1, none⟩ = some (.int .i64 s) ∧ w'.cell? ⟨w.heap.size, 2, none⟩ = some (.int .i64 d) ∧ w'.cell? ⟨w.heap.size, 3, none⟩ = some (.int .i64 q) ∧ w'.cell? ⟨w.heap.size, 4, none⟩ = some (.int .i64 l) ∧ w'.cell? ⟨w.heap.size, 5, none⟩ = some (.bool m) ∧ w'.cell? ⟨w.heap.size, 6, none⟩ = some (.bool c))
    (go_keep)
    (first
      | (go_at_call 57; (with_reducible refine (O _ _).mono ?_); rintro e w' ⟨rfl, rfl⟩))
  all_goals
    go_wp2_with (first
      | (go_at_call 58; (with_reducible refine (P w1).mono ?_); rintro e w' ⟨rfl, n5, rfl⟩)
      | (go_at_call 53; (with_reducible refine (S _).mono ?_); rintro e w' ⟨rfl, rfl⟩))
    go_ret2
    exact ⟨rfl, below_drewN (HB.out.trans ((below_two w1 _ _).mono (by omega))) _⟩
end Go.Proofs.Ytkigeakaedkjpaa
