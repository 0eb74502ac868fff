/-
  The walk of unpackData.
-/
import Derived.Test.YtkigeakaedkjpaaUnHead
import Derived.RegionTactic
import Derived.BigRegion
namespace Go.Proofs.Ytkigeakaedkjpaa
open Go.RowKit

theorem Try.info5 : (Try.prog.info? 5).map (fun i => (i.zero, i.size, i.bytes)) = some (some (.int .u8 0), 1, 1) := by kernel_rfl

theorem Own.mono {e : TypeId} {w : World} {B B' : Nat} {v : Value} {l : List Value} (h : Own e w B v l) (hb : B' ≤ B) : Own e w B' v l := by
  obtain ⟨h1, h2⟩ := h
  refine ⟨h1, ?_⟩
  rcases h2 with h2 | ⟨g, cap, cur, h3, h4, h5⟩
  · exact Or.inl h2
  · exact Or.inr ⟨g, cap, cur, h3, by omega, h5⟩

/-- A row of the call's own that is not empty lies at the head of a block. -/
theorem Own.form {e : TypeId} {w : World} {B : Nat} {v : Value} {l : List Value} (h : Own e w B v l) (hl : 0 < l.length) :
    ∃ g cap, v = .slice (some ⟨g, 0, none⟩) l.length cap ∧ l.length ≤ cap ∧ cap ≤ maxLen ∧ B ≤ g ∧ ∀ j x, l[j]? = some x → w.cell? ⟨g, j, none⟩ = some x := by
  have hr := h.rd
  rcases h.2 with ⟨_, h2⟩ | ⟨g, cap, cur, rfl, hg, hh, hc1, hc2, hc3, hc4⟩
  · omega
  · refine ⟨g, cap, rfl, hc1, hc2, hg, fun j x hj => ?_⟩
    obtain ⟨a, cap2, he, _, _, hR⟩ := hr
    simp only [Value.slice.injEq] at he
    obtain ⟨g2, off, he2, _, hc⟩ := hR j x hj
    rw [← he.1] at he2
    simp only [Option.some.injEq, Addr.mk.injEq] at he2
    obtain ⟨rfl, rfl, _⟩ := he2
    rw [Nat.zero_add] at hc
    exact hc

/-- 'string(b)' of bytes of the call's own. -/
theorem own_string {w : World} {B : Nat} {v : Value} {L : List Nat} (h : Own 5 w B v (vb L)) (hl : ∀ x ∈ L, x < 256) : (convert 86 9 v).run Try.prog w = .ok (.string (ofB L)) w := by
  obtain ⟨a, cap, rfl, _, _, hR⟩ := h.rd
  by_cases h0 : L = []
  · subst h0
    rcases h.2 with ⟨h1, _⟩ | ⟨g, cap', cur, h1, _⟩
    · simp only [Value.slice.injEq] at h1
      obtain ⟨rfl, _, rfl⟩ := h1
      exact run_convert_bytes_nil w 86 5 Try.underlying86 Try.underlying5 _ _ 9 Try.underlying9
    · simp only [Value.slice.injEq] at h1
      obtain ⟨rfl, _, rfl⟩ := h1
      exact run_convert_bytes_arg w 86 5 Try.underlying86 Try.underlying5 g 0 _ _ [] rfl (fun i hi => absurd hi (by simp)) 9 Try.underlying9
  · have hpos : 0 < L.length := List.length_pos_iff.mpr h0
    obtain ⟨g, off, rfl, _⟩ := hR.cell (k := 0) (v := .int .u8 (L.getD 0 0 : Nat)) (by simp [vb, hpos])
    have := run_convert_bytes_arg w 86 5 Try.underlying86 Try.underlying5 g off (vb L).length cap (L.map fun (n : Nat) => (n : Int)) (by simp [vb]) (fun i hi => by
      have hi' : i < L.length := by simpa [vb] using hi
      obtain ⟨g2, off2, he, hc⟩ := hR.cell (k := i) (v := .int .u8 (L.getD i 0 : Nat)) (by simp [vb, hi'])
      simp only [Option.some.injEq, Addr.mk.injEq] at he
      obtain ⟨rfl, rfl, _⟩ := he
      rw [hc]
      simp [hi']) 9 Try.underlying9
    rw [this]
    unfold strOfNums ofB
    simp only [List.map_map]
    congr 4

/-- The cells of a result that has been laid, as the first new block. -/
theorem zero_cells1 {w w2 : World} (hb : Below (w.heap.size + 1) (w.alloc (.cells zc 49)) w2) (j : Nat) :
    w2.cell? ⟨w.heap.size, j, none⟩ = zc[j]? ∧ w2.frozen? ⟨w.heap.size, j, none⟩ = false := by
  have e2 := (hb.block w.heap.size (by omega)).trans (heap_alloc_new w _)
  refine ⟨cell_of e2 j, ?_⟩
  simp [World.frozen?, e2]

theorem vb_snoc (l : List Nat) (j : Nat) (h : j < l.length) : vb (l.take j) ++ [.int .u8 ((l.getD j 0 : Nat) : Int)] = vb (l.take (j + 1)) := by
  have : l.take (j + 1) = l.take j ++ [l.getD j 0] := by
    rw [List.take_succ_eq_append_getElem h]; simp [h]
  rw [this]
  simp [vb]

set_option maxRecDepth 100000 in
set_option maxHeartbeats 1600000 in
theorem unData_any (W n v0 v1 : Nat) (L : List Nat) (hW : W < 18446744073709551616) (hn : getV W 2 3 = n) (hn7 : n ≤ 7) (hv : vals W 0 (ds n) = v0 :: v1 :: L) (hL : L.length = n) (hL8 : ∀ x ∈ L, x < 256) (hv0 : v0 < 4) (w : World) :
    Calls Try.prog 71 #[.int .u64 W] w fun e w' => e = .returned (flv ⟨v0, 0, 0, 0, 0, false, false, ofB L⟩) ∧ Below w.heap.size w w' := by
  obtain ⟨i0, hi, hz0, hz1, hz2⟩ := info_parts Try.info5
  obtain ⟨B, hB⟩ : ∃ B, B = w.heap.size + 1 := ⟨_, rfl⟩
  have hu : unpackR W (ds n) = (v0 :: v1 :: L, 0) := by unfold unpackR; rw [if_pos (ds_room n hn7), hv]
  have G := fun w => get_any W 2 3 hW w
  rw [hn, show getE 2 3 = 0 by decide] at G
  have D := fun w => dataSizes_any n hn7 w
  have HU : Hid (unpackR W (ds n) = (v0 :: v1 :: L, 0)) := hu
  have HL : Hid (L.length = n) := hL
  have HL8 : Hid (∀ x ∈ L, x < 256) := hL8
  have HB : Hid (B = w.heap.size + 1) := hB
  clear hn hv hu hL hL8 hB
  obtain ⟨X, hX⟩ : ∃ X, X = ofB L := ⟨_, rfl⟩
  rw [← hX]
  have HX : Hid (X = ofB L) := hX
  clear hX
  simp only [flv, flc]
  go_enter Try.func71, Try.ntmps71
  go_wp2_with fail
  go_at_call 65
  refine (G _).mono ?_
  rintro e w1 ⟨rfl, n1, rfl⟩
  go_wp2_with fail
  go_at_call 79
  refine (D _).mono ?_
  rintro e w2 ⟨v, rfl, ho, hb⟩
  obtain ⟨a, cap, rfl, _, _, hR⟩ := ho.rd
  have hb2 : Below B (w.alloc (.cells zc 49)) w2 := (below_drewN (Below.refl B _) _).trans (hb.mono (by rw [HB.out]; simp))
  have U := unpack_any W hW w2 a (n + 2) cap (ds n) (by simp [ds]) (by omega) hR
  rw [HU.out] at U
  have hl0 : (vi (ds n)).length = n + 2 := by simp [vi, ds]
  have hsz2 : B ≤ w2.heap.size := by have := hb2.size; have := HB.out; simp at *; omega
  rw [hl0]
  clear ho hb hR hl0 G D
  go_wp2_with fail
  go_at_call 77
  refine U.mono ?_
  rintro e w3 ⟨v, rfl, hU, hb3⟩
  have hO : Own 65 w3 B v (vu (v0 :: v1 :: L)) := by
    have h1 : Own 65 w3 w2.heap.size v (vu (v0 :: v1 :: L)) := by
      unfold Own
      rw [show (vu (v0 :: v1 :: L)).length = (v0 :: v1 :: L).length by simp [vu]]
      exact hU
    exact h1.mono hsz2
  have hb4 : Below B (w.alloc (.cells zc 49)) w3 := hb2.trans (hb3.mono hsz2)
  have hsz3 : B ≤ w3.heap.size := by have := hb3.size; omega
  obtain ⟨g, cap3, rfl, hc1, hc2, hg, hcs⟩ := hO.form (by simp [vu])
  have hl1 : (vu (v0 :: v1 :: L)).length = n + 2 := by simp [vu]; exact HL.out
  rw [hl1] at hO hc1 ⊢
  clear hU hb2 hb3 U hl1 hsz2 hcs
  go_wp2_with (at_make; refine wpList_make_own _ rfl _ _ 86 rfl B 5 i0 (.int .u8 0) 1 Try.underlying86 hi hz0 hz1 .i64 .u32 _ n rfl rfl rfl ?b2 ?b3 hsz3 ?_)
  case b2 => rw [hz2]; omega
  case b3 => unfold maxLen; omega
  intro w4 hown4 hgrow4
  have hO4 : Own 65 w4 B (.slice (some ⟨g, 0, none⟩) (n + 2) cap3) (vu (v0 :: v1 :: L)) := World.ownsRow.kept hO hgrow4 (Or.inr (by simp [Value.ownBlock]))
  have hb5 : Below B (w.alloc (.cells zc 49)) w4 := Below.grown hb4 hgrow4 hsz3 (fun k h => by cases h)
  have O4 : Hid (Own 65 w4 B (.slice (some ⟨g, 0, none⟩) (n + 2) cap3) (vu (v0 :: v1 :: L))) := hO4
  have B5 : Hid (Below B (w.alloc (.cells zc 49)) w4) := hb5
  have O5 : Hid (Own 5 w4 B (.slice (some ⟨w3.heap.size, 0, none⟩) 0 n) (vb (L.take 0))) := hown4
  clear hO4 hb5 hown4 hgrow4 hb4 hsz3 hO
  unfold maxLen at hc2
  by_cases hcap : cap3 = 2
  · obtain rfl : n = 0 := by omega
    go_wp2
    go_loopw [7, 31] (fun v i wr => ∃ j : Nat, j ≤ 0 ∧ i = .int .i64 j ∧ Own 5 wr B v (vb (L.take j)) ∧ Own 65 wr B (.slice (some ⟨g, 0, none⟩) (0 + 2) cap3) (vu (v0 :: v1 :: L)) ∧ Below B (w.alloc (.cells zc 49)) wr) (fun _ i _ => 0 - (intOf i).toNat)
    case atStart => exact ⟨0, Nat.zero_le _, rfl, O5.out, O4.out, B5.out⟩
    case round =>
      obtain ⟨j, hj, rfl, own5, own44, hbel⟩ := hrel
      obtain rfl : j = 0 := by omega
      rw [show L.take 0 = L from List.take_of_length_le (by have := HL.out; omega)] at own5
      obtain ⟨g2, cp2, he, _, _, _, hcs⟩ := own44.form (by simp [vu])
      simp only [Value.slice.injEq, Option.some.injEq, Addr.mk.injEq] at he
      obtain ⟨⟨rfl, _⟩, hlen, rfl⟩ := he
      clear hlen
      have k0 := hcs 0 _ rfl
      have K0 : wr.drew.cell? ⟨g, 0, none⟩ = some (.int .u32 v0) := k0
      have hst := own_string (w := wr.drew) own5 HL8.out
      rw [← HX.out] at hst
      have hz := fun j => zero_cells1 (w := w) (w2 := wr) (by rw [← HB.out]; exact hbel) j
      have z0 := (hz 0).1
      have z1 := (hz 1).1
      have z2 := (hz 2).1
      have z3 := (hz 3).1
      have z4 := (hz 4).1
      have z5 := (hz 5).1
      have z6 := (hz 6).1
      have z7 := (hz 7).1
      have f0 := (hz 0).2
      have f1 := (hz 1).2
      have f2 := (hz 2).2
      have f3 := (hz 3).2
      have f4 := (hz 4).2
      have f5 := (hz 5).2
      have f6 := (hz 6).2
      have f7 := (hz 7).2
      simp at z0 z1 z2 z3 z4 z5 z6 z7
      have HBW : Hid (Below w.heap.size w wr) := ((Below.refl _ _).alloc (Nat.le_refl _) _).trans (hbel.mono (by rw [HB.out]; omega))
      clear hz hcs own5 own44 hbel
      go_wp2_with fail
      go_region
      go_wp2
      exact bodyPost_ret (v := .agg #[.int .i64 v0, .int .i64 0, .int .i64 0, .int .i64 0, .int .i64 0, .bool false, .bool false, .string X]) (by simp [results, Try.results71, go_sem, z0, z1, z2, z3, z4, z5, z6, z7]) rfl ⟨rfl, below_drew (below_eight HBW.out _ _ _ _ _ _ _ _)⟩
  · have hcap3 : 2 < cap3 := by omega
    go_wp2
    go_loopw [7, 31] (fun v i wr => ∃ j : Nat, j ≤ n ∧ i = .int .i64 j ∧ Own 5 wr B v (vb (L.take j)) ∧ Own 65 wr B (.slice (some ⟨g, 0, none⟩) (n + 2) cap3) (vu (v0 :: v1 :: L)) ∧ Below B (w.alloc (.cells zc 49)) wr) (fun _ i _ => n - (intOf i).toNat)
    case atStart => exact ⟨0, Nat.zero_le _, rfl, O5.out, O4.out, B5.out⟩
    case round =>
      obtain ⟨j, hj, rfl, own5, own44, hbel⟩ := hrel
      by_cases hlt : j < n
      · have hsz : B ≤ wr.heap.size := by have := hbel.size; have := HB.out; simp at *; omega
        have hc : wr.cell? ⟨g, 2 + j, none⟩ = some (.int .u32 (L.getD j 0 : Nat)) := by
          obtain ⟨g2, cp2, he, _, _, _, hcs⟩ := own44.form (by simp [vu])
          simp only [Value.slice.injEq, Option.some.injEq, Addr.mk.injEq] at he
          obtain ⟨⟨rfl, _⟩, hlen, rfl⟩ := he
          clear hlen
          refine hcs (2 + j) _ ?_
          have hjl : j < L.length := by have := HL.out; omega
          rw [Nat.add_comm]
          simp [vu, hjl]
        have hb256 : L.getD j 0 < 256 := by
          have hjl : j < L.length := by have := HL.out; omega
          have e : L.getD j 0 = L[j] := by simp [hjl]
          rw [e]
          exact HL8.out _ (List.getElem_mem hjl)
        have he2 := vb_snoc L j (by have := HL.out; omega)
        have hl2 : (vb (L.take j)).length ≤ 1000000 := by simp [vb]; omega
        obtain ⟨b, hb⟩ : ∃ b, b = L.getD j 0 := ⟨_, rfl⟩
        rw [← hb] at hc hb256 he2
        have HE2 : Hid (vb (L.take j) ++ [.int .u8 (b : Int)] = vb (L.take (j + 1))) := he2
        clear he2 hb
        generalize vb (L.take j) = L2 at *
        go_wp2_with (at_builtin; refine wpList_app_one rfl (.tmp 35) (.tmp 38) 86 5 i0 (.int .u8 0) 1 rfl Try.underlying86 hi hz0 hz1 hz2 rfl (by decide) B wr _ _ (.int .u8 (b : Int)) rfl own5 rfl rfl hl2 hsz ?_; intro v1' wa o1a ka; have ba := ka.2.1 _ hbel; have o2a := ka.2.2.1 65 _ _ (by decide) own44; clear ka own5 own44 hbel)
        rw [HE2.out] at o1a
        go_roundw
        case rel => exact ⟨j + 1, by omega, by go_num, o1a, o2a, ba⟩
        case measure => simp [intOf]; omega
      · obtain rfl : j = n := by omega
        rw [show L.take j = L from List.take_of_length_le (by have := HL.out; omega)] at own5
        obtain ⟨g2, cp2, he, _, _, _, hcs⟩ := own44.form (by simp [vu])
        simp only [Value.slice.injEq, Option.some.injEq, Addr.mk.injEq] at he
        obtain ⟨⟨rfl, _⟩, hlen, rfl⟩ := he
        clear hlen
        have k0 := hcs 0 _ rfl
        have K0 : wr.drew.cell? ⟨g, 0, none⟩ = some (.int .u32 v0) := k0
        have hst := own_string (w := wr.drew) own5 HL8.out
        rw [← HX.out] at hst
        have hz := fun j => zero_cells1 (w := w) (w2 := wr) (by rw [← HB.out]; exact hbel) j
        have z0 := (hz 0).1
        have z1 := (hz 1).1
        have z2 := (hz 2).1
        have z3 := (hz 3).1
        have z4 := (hz 4).1
        have z5 := (hz 5).1
        have z6 := (hz 6).1
        have z7 := (hz 7).1
        have f0 := (hz 0).2
        have f1 := (hz 1).2
        have f2 := (hz 2).2
        have f3 := (hz 3).2
        have f4 := (hz 4).2
        have f5 := (hz 5).2
        have f6 := (hz 6).2
        have f7 := (hz 7).2
        simp at z0 z1 z2 z3 z4 z5 z6 z7
        have HBW : Hid (Below w.heap.size w wr) := ((Below.refl _ _).alloc (Nat.le_refl _) _).trans (hbel.mono (by rw [HB.out]; omega))
        clear hz hcs own5 own44 hbel
        go_wp2_with fail
        go_region
        go_wp2
        exact bodyPost_ret (v := .agg #[.int .i64 v0, .int .i64 0, .int .i64 0, .int .i64 0, .int .i64 0, .bool false, .bool false, .string X]) (by simp [results, Try.results71, go_sem, z0, z1, z2, z3, z4, z5, z6, z7]) rfl ⟨rfl, below_drew (below_eight HBW.out _ _ _ _ _ _ _ _)⟩
end Go.Proofs.Ytkigeakaedkjpaa
