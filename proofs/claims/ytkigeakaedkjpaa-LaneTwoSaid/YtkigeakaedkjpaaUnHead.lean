/-
  The walk of unpackHead.
-/
import Derived.Test.YtkigeakaedkjpaaRwriteD
namespace Go.Proofs.Ytkigeakaedkjpaa
open Go.RowKit

theorem rwrite_any (f : Fl) (w : World) : Calls Try.prog 42 #[flv f] w fun e w' => e = .returned (.tuple #[.int .u64 (f.wordR.1 : Nat), .int .i64 f.wordR.2]) ∧ Below w.heap.size w w' := by
  by_cases h : f.rightB = true
  · have e0 : f.wordR = (sealN (packR f.sizes f.vals).1, 0) := by unfold Fl.wordR; rw [if_pos h]; rfl
    have h0 := right_pack h
    rw [e0]
    obtain ⟨k, s, d, q, l, m, c, x⟩ := f
    rcases right_forms h with ⟨h1, a1, a2, a3, a4, a5, a6, a7, a8, a9⟩ | ⟨hk2, b1, b2, b3, b4, b5, b6, hx⟩
    · simp only at h1 a1 a2 a3 a4 a5 a6 a7 a8 a9
      subst h1
      obtain ⟨s, rfl⟩ := Int.eq_ofNat_of_zero_le a1
      obtain ⟨d, rfl⟩ := Int.eq_ofNat_of_zero_le a3
      obtain ⟨q, rfl⟩ := Int.eq_ofNat_of_zero_le a5
      obtain ⟨l, rfl⟩ := Int.eq_ofNat_of_zero_le a7
      have e1 : (Fl.mk 1 s d q l m c x).sizes = Ytkigeakaedkjpaa.hs := by unfold Fl.sizes; rw [if_pos rfl]
      have e2 : (Fl.mk 1 s d q l m c x).vals = [1, s, d, q, l, bitN m, bitN c] := by unfold Fl.vals; rw [if_pos rfl]; rfl
      rw [e1, e2] at h0 ⊢
      exact rwrite_head s d q l m c x w (by omega) (by omega) (by omega) (by omega) h _ (Prod.ext rfl h0)
    · simp only at hk2 b1 b2 b3 b4 b5 b6 hx
      subst b1 b2 b3 b4 b5 b6
      obtain ⟨k, rfl⟩ := Int.eq_ofNat_of_zero_le (a := k) (by omega)
      have e1 : (Fl.mk k 0 0 0 0 false false x).sizes = ds x.size := by unfold Fl.sizes; rw [if_neg (by show ¬ (k : Int) = 1; omega)]
      have e2 : (Fl.mk k 0 0 0 0 false false x).vals = k :: x.size :: bytes x := by unfold Fl.vals; rw [if_neg (by show ¬ (k : Int) = 1; omega)]; rfl
      rw [e1, e2] at h0 ⊢
      exact rwrite_data k x w (by omega) (by omega) hx h _ (Prod.ext rfl h0)
  · have h' : f.rightB = false := by simpa using h
    have e1 : f.wordR = (0, 1) := by unfold Fl.wordR; rw [if_neg h]
    rw [e1]
    have hR := rfright_any f (w.alloc (.cells (flc f) 49))
    rw [show (w.alloc (.cells (flc f) 49)).heap.size = w.heap.size + 1 by simp] at hR
    have B0 : Hid (∀ w1, Below (w.heap.size + 1) (w.alloc (.cells (flc f) 49)) w1 → Below w.heap.size w w1) := fun w1 h => below_box _ _ h
    rw [h'] at hR
    clear e1 h h'
    simp only [flv, flc] at *
    go_enter Try.func42, Try.ntmps42
    go_wp2_with fail
    go_at_call 56
    refine hR.mono ?_
    rintro e w1 ⟨rfl, hb⟩
    have HB : Hid (Below w.heap.size w w1) := B0.out _ hb
    clear hb hR
    go_wp2
    go_ret2
    exact ⟨rfl, HB.out⟩

abbrev zc : Array Value := #[.int .i64 0, .int .i64 0, .int .i64 0, .int .i64 0, .int .i64 0, .bool false, .bool false, .string ⟨#[]⟩]

/-- The cells of a result that has been laid. -/
theorem zero_cells {w w2 : World} {B : Nat} (o : Obj) (hb : Below B ((w.alloc (.cells zc 49)).alloc o) w2) (hB : w.heap.size < B) (j : Nat) :
    w2.cell? ⟨w.heap.size, j, none⟩ = zc[j]? ∧ w2.frozen? ⟨w.heap.size, j, none⟩ = false := by
  have e : ((w.alloc (.cells zc 49)).alloc o).heap[w.heap.size]? = some (.cells zc 49 (0, 0)) := by
    rw [Below.heap_alloc _ _ _ (by simp)]
    exact heap_alloc_new w _
  have e2 := (hb.block w.heap.size hB).trans e
  refine ⟨cell_of e2 j, ?_⟩
  simp [World.frozen?, e2]

theorem below_eight {w w2 : World} (h : Below w.heap.size w w2) (a b c d e f g i : Value) :
    Below w.heap.size w ((((((((w2.setCell ⟨w.heap.size, 0, none⟩ a).setCell ⟨w.heap.size, 1, none⟩ b).setCell ⟨w.heap.size, 2, none⟩ c).setCell ⟨w.heap.size, 3, none⟩ d).setCell ⟨w.heap.size, 4, none⟩ e).setCell ⟨w.heap.size, 5, none⟩ f).setCell ⟨w.heap.size, 6, none⟩ g).setCell ⟨w.heap.size, 7, none⟩ i) :=
  (((((((h.setCell (Nat.le_refl _) _).setCell (Nat.le_refl _) _).setCell (Nat.le_refl _) _).setCell (Nat.le_refl _) _).setCell (Nat.le_refl _) _).setCell (Nat.le_refl _) _).setCell (Nat.le_refl _) _).setCell (Nat.le_refl _) _

set_option maxRecDepth 100000 in
set_option maxHeartbeats 1600000 in
theorem unHead_any (W v0 v1 v2 v3 v4 v5 v6 : Nat) (hW : W < 18446744073709551616) (hv : vals W 0 hs = [v0, v1, v2, v3, v4, v5, v6]) (w : World) :
    Calls Try.prog 70 #[.int .u64 W] w fun e w' => e = .returned (flv ⟨v0, v1, v2, v3, v4, (v5 : Int) == 1, (v6 : Int) == 1, ⟨#[]⟩⟩) ∧ Below w.heap.size w w' := by
  have hu : unpackR W hs = ([v0, v1, v2, v3, v4, v5, v6], 0) := by unfold unpackR; rw [if_pos hs_room, hv]
  have hl : ∀ v ∈ [v0, v1, v2, v3, v4, v5, v6], v < 4294967296 := by
    rw [← hv]
    intro v hm
    simp only [hs, vals, List.mem_cons, List.not_mem_nil, or_false] at hm
    rcases hm with rfl | rfl | rfl | rfl | rfl | rfl | rfl <;> exact getV_lt _ _ _
  have l0 := hl v0 (by simp)
  have l1 := hl v1 (by simp)
  have l2 := hl v2 (by simp)
  have l3 := hl v3 (by simp)
  have l4 := hl v4 (by simp)
  have l5 := hl v5 (by simp)
  have l6 := hl v6 (by simp)
  have H := fun w => headSizes_any w
  have U := unpack_any W hW ((w.alloc (.cells zc 49)).alloc hsO) (some ⟨w.heap.size + 1, 0, none⟩) 7 7 hs rfl (by omega) (by
    have := rd_new (w.alloc (.cells zc 49)) (vi hs) 3
    rw [show (w.alloc (.cells zc 49)).heap.size = w.heap.size + 1 by simp] at this
    exact this)
  rw [hu] at U
  clear hl hv hu
  simp only [flv, flc]
  go_enter Try.func70, Try.ntmps70
  go_wp2_with (go_at_call 78; (with_reducible refine (H _).mono ?_); rintro e w' ⟨rfl, rfl⟩)
  go_at_call 77
  refine U.mono ?_
  rintro e w2 ⟨v, rfl, hU, hb⟩
  obtain ⟨a, cap, rfl, _, _, hR⟩ := hU.rd
  obtain ⟨g, off, rfl, hc0⟩ := hR.cell (k := 0) (v := .int .u32 v0) rfl
  have hcs : ∀ j v, (vu [v0, v1, v2, v3, v4, v5, v6])[j]? = some v → w2.cell? ⟨g, off + j, none⟩ = some v := fun j v hj => by
    obtain ⟨g2, off2, he, hc⟩ := hR.cell hj
    simp only [Option.some.injEq, Addr.mk.injEq] at he
    obtain ⟨rfl, rfl, _⟩ := he
    exact hc
  have k0 := hcs 0 _ rfl
  have k1 := hcs 1 _ rfl
  have k2 := hcs 2 _ rfl
  have k3 := hcs 3 _ rfl
  have k4 := hcs 4 _ rfl
  have k5 := hcs 5 _ rfl
  have k6 := hcs 6 _ rfl
  have hz := fun j => zero_cells hsO hb (by simp; omega) j
  have HB : Hid (Below w.heap.size w w2) := (below_two w _ _).trans (hb.mono (by simp; omega))
  have z0 := (hz 0).1
  have z1 := (hz 1).1
  have z2 := (hz 2).1
  have z3 := (hz 3).1
  have z4 := (hz 4).1
  have z5 := (hz 5).1
  have z6 := (hz 6).1
  have z7 := (hz 7).1
  have f0 := (hz 0).2
  have f1 := (hz 1).2
  have f2 := (hz 2).2
  have f3 := (hz 3).2
  have f4 := (hz 4).2
  have f5 := (hz 5).2
  have f6 := (hz 6).2
  have f7 := (hz 7).2
  have hge := (World.ownsRow.lt hU g rfl).1
  have hgn : ¬ g = w.heap.size := by simp at hge; omega
  have hgm : ¬ w.heap.size = g := fun h => hgn h.symm
  clear hge
  have r0 : IntKind.i64.wrap (v0 : Int) = v0 := IntWalk.i64_in _ (by omega)
  have r1 : IntKind.i64.wrap (v1 : Int) = v1 := IntWalk.i64_in _ (by omega)
  have r2 : IntKind.i64.wrap (v2 : Int) = v2 := IntWalk.i64_in _ (by omega)
  have r3 : IntKind.i64.wrap (v3 : Int) = v3 := IntWalk.i64_in _ (by omega)
  have r4 : IntKind.i64.wrap (v4 : Int) = v4 := IntWalk.i64_in _ (by omega)
  simp at z0 z1 z2 z3 z4 z5 z6 z7
  clear hz hb hcs hU hR hc0
  rw [Nat.add_zero] at k0
  go_wp2_with fail
  go_region_held3 (fun w' => w'.cell? ⟨g, off, none⟩ = some (.int .u32 v0) ∧ w'.cell? ⟨g, off + 1, none⟩ = some (.int .u32 v1) ∧ w'.cell? ⟨g, off + 2, none⟩ = some (.int .u32 v2) ∧ w'.cell? ⟨g, off + 3, none⟩ = some (.int .u32 v3) ∧ w'.cell? ⟨g, off + 4, none⟩ = some (.int .u32 v4) ∧ w'.cell? ⟨g, off + 5, none⟩ = some (.int .u32 v5) ∧ w'.cell? ⟨g, off + 6, none⟩ = some (.int .u32 v6))
    (go_keep) (first | (go_at_call 9999; skip))
  go_wp2
  exact bodyPost_ret (v := .agg #[.int .i64 v0, .int .i64 v1, .int .i64 v2, .int .i64 v3, .int .i64 v4, .bool ((v5 : Int) == 1), .bool ((v6 : Int) == 1), .string ⟨#[]⟩]) (by simp [results, Try.results70, go_sem, z0, z1, z2, z3, z4, z5, z6, z7]) rfl
    ⟨rfl, below_drew (below_eight HB.out _ _ _ _ _ _ _ _)⟩
end Go.Proofs.Ytkigeakaedkjpaa
