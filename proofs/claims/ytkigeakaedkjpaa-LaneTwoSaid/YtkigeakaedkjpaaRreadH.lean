/-
  The walk of the document's own Read, at a Head's word.
-/
import Derived.Test.YtkigeakaedkjpaaRead
namespace Go.Proofs.Ytkigeakaedkjpaa
open Go.RowKit

def RPost (w : World) (D : Fl) (a W : Nat) (e1 : Int) (e : Ending) (w' : World) : Prop :=
  e = .returned (.tuple (if a = W ∧ e1 = 0 then #[flv D, .int .i64 0] else #[.agg zc, .int .i64 2])) ∧ Below w.heap.size w w'

/-- The cells of a block of eight, none frozen. -/
theorem eight_at {w2 : World} {b : Nat} {f : Fl} (h : w2.heap[b]? = some (.cells (flc f) 49 (0, 0))) (j : Nat) : w2.cell? ⟨b, j, none⟩ = (flc f)[j]? ∧ w2.frozen? ⟨b, j, none⟩ = false := by
  refine ⟨cell_of h j, ?_⟩
  simp [World.frozen?, h]

theorem six_set {w2 : World} {b : Nat} (h : w2.heap[b]? = some (.cells (flc ⟨1, 0, 0, 0, 0, false, false, ⟨#[]⟩⟩) 49 (0, 0))) (a1 a2 a3 a4 : Int) (m c : Bool) :
    ((((((w2.setCell ⟨b, 1, none⟩ (.int .i64 a1)).setCell ⟨b, 2, none⟩ (.int .i64 a2)).setCell ⟨b, 3, none⟩ (.int .i64 a3)).setCell ⟨b, 4, none⟩ (.int .i64 a4)).setCell ⟨b, 5, none⟩ (.bool m)).setCell ⟨b, 6, none⟩ (.bool c)).heap[b]? =
      some (.cells (flc ⟨1, a1, a2, a3, a4, m, c, ⟨#[]⟩⟩) 49 (0, 0)) := by
  simp [World.setCell, Array.getElem?_modify, h]

theorem below_six {w w2 : World} {B : Nat} (h : Below (B + 1) w w2) (v1 v2 v3 v4 v5 v6 : Value) :
    Below (B + 1) w ((((((w2.setCell ⟨B + 1, 1, none⟩ v1).setCell ⟨B + 1, 2, none⟩ v2).setCell ⟨B + 1, 3, none⟩ v3).setCell ⟨B + 1, 4, none⟩ v4).setCell ⟨B + 1, 5, none⟩ v5).setCell ⟨B + 1, 6, none⟩ v6) :=
  (((((h.setCell (Nat.le_refl _) _).setCell (Nat.le_refl _) _).setCell (Nat.le_refl _) _).setCell (Nat.le_refl _) _).setCell (Nat.le_refl _) _).setCell (Nat.le_refl _) _

set_option maxRecDepth 100000 in
set_option maxHeartbeats 1600000 in
theorem rread_head (W v0 v1 v2 v3 v4 v5 v6 : Nat) (D : Fl) (a : Nat) (e1 : Int) (hW : W < 18446744073709551616) (hr : sealN W = W) (h1 : W % 4 = 1) (hv : vals W 0 hs = [v0, v1, v2, v3, v4, v5, v6])
    (hD : D = ⟨1, v1, v2, v3, v4, (v5 : Int) == 1, (v6 : Int) == 1, ⟨#[]⟩⟩)
    (E : ∀ w, Calls Try.prog 42 #[flv D] w fun e w' => e = .returned (.tuple #[.int .u64 (a : Int), .int .i64 e1]) ∧ Below w.heap.size w w') (w : World) :
    Calls Try.prog 22 #[.int .u64 W] w (RPost w D a W e1) := by
  have R := fun w => rright_any W hW w
  rw [decide_eq_true hr] at R
  have hu : unpackR W hs = ([v0, v1, v2, v3, v4, v5, v6], 0) := by unfold unpackR; rw [if_pos hs_room, hv]
  have hl : ∀ v ∈ [v0, v1, v2, v3, v4, v5, v6], v < 4294967296 := by
    rw [← hv]
    intro v hm
    simp only [hs, vals, List.mem_cons, List.not_mem_nil, or_false] at hm
    rcases hm with rfl | rfl | rfl | rfl | rfl | rfl | rfl <;> exact getV_lt _ _ _
  have l1 := hl v1 (by simp)
  have l2 := hl v2 (by simp)
  have l3 := hl v3 (by simp)
  have l4 := hl v4 (by simp)
  have l5 := hl v5 (by simp)
  have l6 := hl v6 (by simp)
  have U := runpack_any W hW (((w.alloc (.cells zc 49)).alloc (.cells (flc ⟨1, 0, 0, 0, 0, false, false, ⟨#[]⟩⟩) 49)).alloc hsO) (some ⟨w.heap.size + 1 + 1, 0, none⟩) 7 7 hs rfl (by omega) (by
    have := rd_new ((w.alloc (.cells zc 49)).alloc (.cells (flc ⟨1, 0, 0, 0, 0, false, false, ⟨#[]⟩⟩) 49)) (vi hs) 3
    rw [show ((w.alloc (.cells zc 49)).alloc (.cells (flc ⟨1, 0, 0, 0, 0, false, false, ⟨#[]⟩⟩) 49)).heap.size = w.heap.size + 1 + 1 by simp] at this
    exact this)
  rw [hu] at U
  have t1 : (W : Int) % 4 = 1 := by omega
  have HD : Hid (D = ⟨1, v1, v2, v3, v4, (v5 : Int) == 1, (v6 : Int) == 1, ⟨#[]⟩⟩) := hD
  rw [hD] at E
  clear hr hu hl hv hD h1
  simp only [flv, flc] at *
  go_enter Try.func22, Try.ntmps22
  go_wp2_with (go_at_call 39; (with_reducible refine (R _).mono ?_); rintro e w' ⟨rfl, rfl⟩)
  go_at_call 40
  refine U.mono ?_
  rintro e w2 ⟨v, rfl, hU, hb⟩
  obtain ⟨ad, cap, rfl, _, _, hR⟩ := hU.rd
  obtain ⟨g, off, rfl, _⟩ := hR.cell (k := 0) (v := .int .u32 v0) rfl
  have hcs : ∀ j v, (vu [v0, v1, v2, v3, v4, v5, v6])[j]? = some v → w2.cell? ⟨g, off + j, none⟩ = some v := fun j v hj => by
    obtain ⟨g2, off2, he, hc⟩ := hR.cell hj
    simp only [Option.some.injEq, Addr.mk.injEq] at he
    obtain ⟨rfl, rfl, _⟩ := he
    exact hc
  have k1 := hcs 1 _ rfl
  have k2 := hcs 2 _ rfl
  have k3 := hcs 3 _ rfl
  have k4 := hcs 4 _ rfl
  have k5 := hcs 5 _ rfl
  have k6 := hcs 6 _ rfl
  have hge := (World.ownsRow.lt hU g rfl).1
  have hgn : ¬ g = w.heap.size + 1 := by simp at hge; omega
  have hgm : ¬ w.heap.size + 1 = g := fun h => hgn h.symm
  have e2 : w2.heap[w.heap.size + 1]? = some (.cells (flc ⟨1, 0, 0, 0, 0, false, false, ⟨#[]⟩⟩) 49 (0, 0)) := by
    rw [hb.block (w.heap.size + 1) (by simp), Below.heap_alloc _ _ _ (by simp)]
    have := heap_alloc_new (w.alloc (.cells zc 49)) (.cells (flc ⟨1, 0, 0, 0, 0, false, false, ⟨#[]⟩⟩) 49)
    rw [show (w.alloc (.cells zc 49)).heap.size = w.heap.size + 1 by simp] at this
    exact this
  have E2 : Hid (w2.heap[w.heap.size + 1]? = some (.cells (flc ⟨1, 0, 0, 0, 0, false, false, ⟨#[]⟩⟩) 49 (0, 0))) := e2
  have hy := fun j => eight_at e2 j
  have y0 := (hy 0).1
  have x0 := (hy 0).2
  have y1 := (hy 1).1
  have x1 := (hy 1).2
  have y2 := (hy 2).1
  have x2 := (hy 2).2
  have y3 := (hy 3).1
  have x3 := (hy 3).2
  have y4 := (hy 4).1
  have x4 := (hy 4).2
  have y5 := (hy 5).1
  have x5 := (hy 5).2
  have y6 := (hy 6).1
  have x6 := (hy 6).2
  have y7 := (hy 7).1
  have x7 := (hy 7).2
  simp at y0 y1 y2 y3 y4 y5 y6 y7
  have B2 : Hid (Below (w.heap.size + 1) (w.alloc (.cells zc 49)) w2) := (Below.refl _ _).trans ((((Below.refl _ _).alloc (by simp) _).alloc (by simp) _).trans (hb.mono (by simp)))
  have hz2 : w.heap.size + 1 < w2.heap.size := by have := hb.size; simp at this; omega
  have r1 : IntKind.i64.wrap (v1 : Int) = v1 := IntWalk.i64_in _ (by omega)
  have r2 : IntKind.i64.wrap (v2 : Int) = v2 := IntWalk.i64_in _ (by omega)
  have r3 : IntKind.i64.wrap (v3 : Int) = v3 := IntWalk.i64_in _ (by omega)
  have r4 : IntKind.i64.wrap (v4 : Int) = v4 := IntWalk.i64_in _ (by omega)
  clear hb hcs hU hR hge hy e2 U
  go_wp2_with fail
  go_at_call 42
  refine (E _).mono ?_
  rintro e w3 ⟨rfl, hc⟩
  have hY := six_set E2.out v1 v2 v3 v4 ((v5 : Int) == 1) ((v6 : Int) == 1)
  have hlY := lt_of_heap hY
  have hd := fun j => eight_at ((hc.block _ hlY).trans hY) j
  have d0 : w3.cell? ⟨w.heap.size + 1, 0, none⟩ = some (.int .i64 1) := (hd 0).1
  have d1 : w3.cell? ⟨w.heap.size + 1, 1, none⟩ = some (.int .i64 v1) := (hd 1).1
  have d2 : w3.cell? ⟨w.heap.size + 1, 2, none⟩ = some (.int .i64 v2) := (hd 2).1
  have d3 : w3.cell? ⟨w.heap.size + 1, 3, none⟩ = some (.int .i64 v3) := (hd 3).1
  have d4 : w3.cell? ⟨w.heap.size + 1, 4, none⟩ = some (.int .i64 v4) := (hd 4).1
  have d5 : w3.cell? ⟨w.heap.size + 1, 5, none⟩ = some (.bool ((v5 : Int) == 1)) := (hd 5).1
  have d6 : w3.cell? ⟨w.heap.size + 1, 6, none⟩ = some (.bool ((v6 : Int) == 1)) := (hd 6).1
  have d7 : w3.cell? ⟨w.heap.size + 1, 7, none⟩ = some (.string ⟨#[]⟩) := (hd 7).1
  have hb : Below (w.heap.size + 1) (w.alloc (.cells zc 49)) w3 := (below_six B2.out _ _ _ _ _ _).trans (hc.mono (by omega))
  obtain ⟨z0, z1, z2, z3, z4, z5, z6, z7, f0, f1, f2, f3, f4, f5, f6, f7⟩ := zeros hb
  have HBW : Hid (Below w.heap.size w w3) := below_box _ _ hb
  have g1 : ¬ w.heap.size + 1 = w.heap.size := by omega
  have g2 : ¬ w.heap.size = w.heap.size + 1 := by omega
  clear hc hb hd hY hlY E k1 k2 k3 k4 k5 k6 hgn hgm x0 y0 x1 y1 x2 y2 x3 y3 x4 y4 x5 y5 x6 y6 x7 y7 r1 r2 r3 r4
  by_cases h1 : e1 = 0
  · subst h1
    by_cases h2 : a = W
    · subst h2
      go_wp2
      exact bodyPost_ret (v := .tuple #[.agg #[.int .i64 1, .int .i64 v1, .int .i64 v2, .int .i64 v3, .int .i64 v4, .bool ((v5 : Int) == 1), .bool ((v6 : Int) == 1), .string ⟨#[]⟩], .int .i64 0]) (by simp [results, Try.results22, go_sem, z0, z1, z2, z3, z4, z5, z6, z7]) rfl ⟨by rw [if_pos ⟨rfl, rfl⟩, HD.out], below_eight HBW.out _ _ _ _ _ _ _ _⟩
    · have t3 : ((a : Int) != (W : Int)) = true := by simp; omega
      have t4 : ((a : Int) == (W : Int)) = false := by simp; omega
      have NE : Hid (¬ a = W) := h2
      clear h2
      go_wp2
      exact bodyPost_ret (v := .tuple #[.agg #[.int .i64 0, .int .i64 0, .int .i64 0, .int .i64 0, .int .i64 0, .bool false, .bool false, .string ⟨#[]⟩], .int .i64 2]) (by simp [results, Try.results22, go_sem, z0, z1, z2, z3, z4, z5, z6, z7]) rfl ⟨by rw [if_neg (fun h => NE.out h.1)], below_eight HBW.out _ _ _ _ _ _ _ _⟩
  · have t3 : (e1 != 0) = true := by simpa using h1
    have t4 : (e1 == 0) = false := by simpa using h1
    have NE : Hid (¬ e1 = 0) := h1
    clear h1
    go_wp2
    exact bodyPost_ret (v := .tuple #[.agg #[.int .i64 0, .int .i64 0, .int .i64 0, .int .i64 0, .int .i64 0, .bool false, .bool false, .string ⟨#[]⟩], .int .i64 2]) (by simp [results, Try.results22, go_sem, z0, z1, z2, z3, z4, z5, z6, z7]) rfl ⟨by rw [if_neg (fun h => NE.out h.2)], below_eight HBW.out _ _ _ _ _ _ _ _⟩
end Go.Proofs.Ytkigeakaedkjpaa
