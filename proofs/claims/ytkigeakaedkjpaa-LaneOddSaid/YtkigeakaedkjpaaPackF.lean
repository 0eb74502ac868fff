/-
  The walk of flit.pack at a Head, and of the document's Write at a Head.
-/
import Derived.Test.YtkigeakaedkjpaaWord
import Derived.Deep.RegionHeld3
import Derived.IntWalk
namespace Go.Proofs.Ytkigeakaedkjpaa
open Go.RowKit

theorem below_drew {B : Nat} {w x : World} (h : Below B w x) : Below B w x.drew := ⟨h.os, h.tape, h.output, h.size, h.block⟩
theorem below_three (w : World) (a b c : Obj) : Below w.heap.size w (((w.alloc a).alloc b).alloc c) :=
  (((Below.refl _ _).alloc (Nat.le_refl _) _).alloc (by simp) _).alloc (by simp; omega) _

abbrev hsO : Obj := .cells #[.int .i64 2, .int .i64 12, .int .i64 12, .int .i64 16, .int .i64 7, .int .i64 1, .int .i64 1] 3
abbrev hvO (s d q l a b : Nat) : Obj := .cells #[.int .u32 1, .int .u32 s, .int .u32 d, .int .u32 q, .int .u32 l, .int .u32 a, .int .u32 b] 65

theorem small_head {s d q l a b : Nat} (hs : s ≤ 4095) (hd : d ≤ 4095) (hq : q ≤ 65535) (hl : l ≤ 64) (ha : a < 2) (hb : b < 2) : small [1, s, d, q, l, a, b] := by
  intro v hv
  simp at hv
  omega

/-- Pack of a Head's values, the sizes laid first. -/
theorem pack_hs1 (w : World) (o : Obj) (s d q l a b : Nat) (hs : s ≤ 4095) (hd : d ≤ 4095) (hq : q ≤ 65535) (hl : l ≤ 64) (ha : a < 2) (hb : b < 2) (R : Nat × Int) (hR : packR Ytkigeakaedkjpaa.hs [1, s, d, q, l, a, b] = R) :
    Calls Try.prog 82 #[.slice (some ⟨w.heap.size + 1, 0, none⟩) 7 7, .slice (some ⟨w.heap.size + 1 + 1, 0, none⟩) 7 7] (((w.alloc o).alloc hsO).alloc (hvO s d q l a b)).drew fun e w' =>
      e = .returned (.tuple #[.int .u64 R.1, .int .i64 R.2]) ∧ Drew (((w.alloc o).alloc hsO).alloc (hvO s d q l a b)).drew w' := by
  have r1 : Rd (((w.alloc o).alloc hsO).alloc (hvO s d q l a b)).drew (some ⟨w.heap.size + 1, 0, none⟩) (vi Ytkigeakaedkjpaa.hs) := by
    have := (rd_new (w.alloc o) (vi Ytkigeakaedkjpaa.hs) 3).alloc (hvO s d q l a b)
    rw [show (w.alloc o).heap.size = w.heap.size + 1 by simp] at this
    exact this
  have r2 : Rd (((w.alloc o).alloc hsO).alloc (hvO s d q l a b)).drew (some ⟨w.heap.size + 1 + 1, 0, none⟩) (vu [1, s, d, q, l, a, b]) := by
    have := rd_new ((w.alloc o).alloc hsO) (vu [1, s, d, q, l, a, b]) 65
    rw [show ((w.alloc o).alloc hsO).heap.size = w.heap.size + 1 + 1 by simp] at this
    exact this
  have := pack_any _ _ _ 7 7 7 7 Ytkigeakaedkjpaa.hs [1, s, d, q, l, a, b] rfl rfl (by omega) (by omega) r1 r2 (small_head hs hd hq hl ha hb)
  rw [hR] at this
  exact this

/-- Pack of a Head's values, the values laid first. -/
theorem pack_hs2 (w : World) (o : Obj) (s d q l a b : Nat) (hs : s ≤ 4095) (hd : d ≤ 4095) (hq : q ≤ 65535) (hl : l ≤ 64) (ha : a < 2) (hb : b < 2) (R : Nat × Int) (hR : packR Ytkigeakaedkjpaa.hs [1, s, d, q, l, a, b] = R) :
    Calls Try.prog 82 #[.slice (some ⟨w.heap.size + 1 + 1, 0, none⟩) 7 7, .slice (some ⟨w.heap.size + 1, 0, none⟩) 7 7] (((w.alloc o).alloc (hvO s d q l a b)).alloc hsO).drew fun e w' =>
      e = .returned (.tuple #[.int .u64 R.1, .int .i64 R.2]) ∧ Drew (((w.alloc o).alloc (hvO s d q l a b)).alloc hsO).drew w' := by
  have r1 : Rd (((w.alloc o).alloc (hvO s d q l a b)).alloc hsO).drew (some ⟨w.heap.size + 1, 0, none⟩) (vu [1, s, d, q, l, a, b]) := by
    have := (rd_new (w.alloc o) (vu [1, s, d, q, l, a, b]) 65).alloc hsO
    rw [show (w.alloc o).heap.size = w.heap.size + 1 by simp] at this
    exact this
  have r2 : Rd (((w.alloc o).alloc (hvO s d q l a b)).alloc hsO).drew (some ⟨w.heap.size + 1 + 1, 0, none⟩) (vi Ytkigeakaedkjpaa.hs) := by
    have := rd_new ((w.alloc o).alloc (hvO s d q l a b)) (vi Ytkigeakaedkjpaa.hs) 3
    rw [show ((w.alloc o).alloc (hvO s d q l a b)).heap.size = w.heap.size + 1 + 1 by simp] at this
    exact this
  have := pack_any _ _ _ 7 7 7 7 Ytkigeakaedkjpaa.hs [1, s, d, q, l, a, b] rfl rfl (by omega) (by omega) r2 r1 (small_head hs hd hq hl ha hb)
  rw [hR] at this
  exact this

set_option maxRecDepth 100000 in
set_option maxHeartbeats 1600000 in
theorem packf_head (s d q l : Nat) (m c : Bool) (x : ByteArray) (w : World) (hs : s ≤ 4095) (hd : d ≤ 4095) (hq : q ≤ 65535) (hl : l ≤ 64) (R : Nat × Int) (hR : packR Ytkigeakaedkjpaa.hs [1, s, d, q, l, bitN m, bitN c] = R) :
    Calls Try.prog 73 #[.agg #[.int .i64 1, .int .i64 s, .int .i64 d, .int .i64 q, .int .i64 l, .bool m, .bool c, .string x]] w fun e w' => e = .returned (.tuple #[.int .u64 R.1, .int .i64 R.2]) ∧ Below w.heap.size w w' := by
  have H := fun w => headSizes_any w
  have B := fun b w => bit1_any b w
  have P1 := pack_hs1 w (.cells #[.int .i64 1, .int .i64 s, .int .i64 d, .int .i64 q, .int .i64 l, .bool m, .bool c, .string x] 49) s d q l (bitN m) (bitN c) hs hd hq hl (bitN_lt _) (bitN_lt _) R hR
  have P2 := pack_hs2 w (.cells #[.int .i64 1, .int .i64 s, .int .i64 d, .int .i64 q, .int .i64 l, .bool m, .bool c, .string x] 49) s d q l (bitN m) (bitN c) hs hd hq hl (bitN_lt _) (bitN_lt _) R hR
  have e0 : IntKind.u32.wrap 1 = 1 := by decide
  have e1 : IntKind.u32.wrap (s : Int) = s := IntWalk.u32_in _ (by omega)
  have e2 : IntKind.u32.wrap (d : Int) = d := IntWalk.u32_in _ (by omega)
  have e3 : IntKind.u32.wrap (q : Int) = q := IntWalk.u32_in _ (by omega)
  have e4 : IntKind.u32.wrap (l : Int) = l := IntWalk.u32_in _ (by omega)
  have T := below_three w
  clear hR
  obtain ⟨R1, R2⟩ := R
  simp only at P1 P2
  go_enter Try.func73, Try.ntmps73
  go_wp2_with fail
  go_region_held3 (fun w' => w'.cell? ⟨w.heap.size, 0, none⟩ = some (.int .i64 1) ∧ w'.cell? ⟨w.heap.size, 1, none⟩ = some (.int .i64 s) ∧ w'.cell? ⟨w.heap.size, 2, none⟩ = some (.int .i64 d) ∧ w'.cell? ⟨w.heap.size, 3, none⟩ = some (.int .i64 q) ∧ w'.cell? ⟨w.heap.size, 4, none⟩ = some (.int .i64 l) ∧ w'.cell? ⟨w.heap.size, 5, none⟩ = some (.bool m) ∧ w'.cell? ⟨w.heap.size, 6, none⟩ = some (.bool c))
    (go_keep)
    (first
      | (go_at_call 78; (with_reducible refine (H _).mono ?_); rintro e w' ⟨rfl, rfl⟩)
      | (go_at_call 83; (with_reducible refine (B _ _).mono ?_); rintro e w' ⟨rfl, rfl⟩)
      | (go_at_call 82; (with_reducible refine P1.mono ?_); rintro e w' ⟨rfl, n5, rfl⟩)
      | (go_at_call 82; (with_reducible refine P2.mono ?_); rintro e w' ⟨rfl, n5, rfl⟩))
  all_goals
    go_wp2
    go_ret2
    exact ⟨rfl, below_drewN (T _ _ _) _⟩
end Go.Proofs.Ytkigeakaedkjpaa
