/-
  The walk of back: a parcel as the program has it.
-/
import Derived.Test.YtkigeakaedkjpaaPcr
namespace Go.Proofs.Ytkigeakaedkjpaa
open Go.RowKit

/-- The first 64 bytes, and the first 12 Heads. -/
def gx (x : ByteArray) : ByteArray := if x.size ≤ 64 then x else x.extract 0 64

/-- A number within bounds, of any. -/
abbrev md (n m : Int) : Int := IntKind.i64.wrap ((IntKind.u64.wrap n).tmod m)
/-- A Head that may be, of any; how many at most. -/
def gh (h : Int × Int) : Int × Int := (md h.1 4096, md h.2 65536)
def gL (c : Bool) : Nat := if c = true then 6 else 1
def gH (c : Bool) (hs : List (Int × Int)) : List (Int × Int) := if hs.length = 0 then [(1, 0)] else (hs.map gh).take (gL c)
theorem gh_take (l : List (Int × Int)) (k : Nat) (h : k < l.length) : pc ((l.map gh).take k) ++ [.int .i64 (md (l.getD k (0, 0)).1 4096), .int .i64 (md (l.getD k (0, 0)).2 65536)] = pc ((l.map gh).take (k + 1)) := by
  have e : (l.map gh).getD k (0, 0) = gh (l.getD k (0, 0)) := by
    rw [List.getD_eq_getElem?_getD, List.getD_eq_getElem?_getD, List.getElem?_map, List.getElem?_eq_getElem h]
    rfl
  have := pc_take (l.map gh) k (by rw [List.length_map]; exact h)
  rw [e] at this
  exact this
set_option maxRecDepth 100000 in
set_option maxHeartbeats 16000000 in
theorem good_new (s : Int) (c : Bool) (a : Option Addr) (cap : Nat) (x : ByteArray) (hs : List (Int × Int)) (w : World) (hm : hs.length ≤ maxLen) (hx : x.size ≤ maxLen) (hr : Rd w a (pc hs)) :
    Calls Try.prog 9 #[pcv s c (.slice a hs.length cap) x] w (PcN w ⟨md s 4096, c, gH c hs, gx x⟩) := by
  obtain ⟨i0, ki, hz0, hz1, hz2⟩ := info_parts Try.info31
  have HR : Hid (Rd w a (pc hs)) := hr
  unfold maxLen at hm hx
  have ST : Hid (∀ k, k < hs.length → pc ((hs.map gh).take k) ++ [.int .i64 (md (hs.getD k (0, 0)).1 4096), .int .i64 (md (hs.getD k (0, 0)).2 65536)] = pc ((hs.map gh).take (k + 1))) := gh_take hs
  have EN : Hid (∀ k, k ≤ hs.length → k ≤ gL c → k = hs.length ∨ k = gL c → (hs.length = 0 → gH c hs = [(1, 0)]) ∧ (¬ hs.length = 0 → (hs.map gh).take k = gH c hs ∧ (gH c hs).length = k ∧ ¬ k = 0)) := show _ from fun k h1 h2 h3 => by
    refine ⟨fun h => by unfold gH; rw [if_pos h], fun h => ?_⟩
    have e : gH c hs = (hs.map gh).take (gL c) := by unfold gH; rw [if_neg h]
    have hg : 1 ≤ gL c := by unfold gL; split <;> omega
    rw [e, List.length_take, List.length_map]
    rcases h3 with rfl | rfl
    · refine ⟨?_, by omega, h⟩
      rw [List.take_of_length_le (by rw [List.length_map]; exact Nat.le_refl _), List.take_of_length_le (by rw [List.length_map]; exact h2)]
    · exact ⟨rfl, by omega, by omega⟩
  generalize gH c hs = GH at *
  unfold PcN
  simp only
  obtain ⟨X, hX⟩ : ∃ X, gx x = X := ⟨_, rfl⟩
  rw [hX]
  obtain ⟨n, hn⟩ : ∃ n, hs.length = n := ⟨_, rfl⟩
  have HN : Hid (hs.length = n) := hn
  rw [hn] at hm ST EN ⊢
  clear hr hn
  simp only [pcv, pcc] at *
  go_enter Try.func9, Try.ntmps9
  have B0 := two_blocks w #[.int .i64 s, .bool c, .slice a n cap, .string x] #[.int .i64 0, .bool false, .slice none 0 0, .string ByteArray.empty] 24 24
  go_upto_region 1 with fail
  go_cut [3] from 5 to 19 (fun vp wc => vp = .pointer (some ⟨w.heap.size + 1 + 1, 0, none⟩) ∧ Bk wc w.heap.size (pcc s c (.slice a n cap) x) 24 ∧ Bk wc (w.heap.size + 1) (pcc 0 false (.slice none 0 0) ByteArray.empty) 24 ∧ Bk wc (w.heap.size + 1 + 1) (pcc (md s 4096) c (.slice none 0 0) X) 24 ∧ Below w.heap.size w wc ∧ w.heap.size + 3 ≤ wc.heap.size)
  case first =>
    clear HR ST EN
    have S1 : ((w.alloc (.cells #[.int .i64 s, .bool c, .slice a n cap, .string x] 24)).alloc (.cells #[.int .i64 0, .bool false, .slice none 0 0, .string ByteArray.empty] 24)).drew.cell? ⟨w.heap.size, 0, none⟩ = some (.int .i64 s) ∧ ((w.alloc (.cells #[.int .i64 s, .bool c, .slice a n cap, .string x] 24)).alloc (.cells #[.int .i64 0, .bool false, .slice none 0 0, .string ByteArray.empty] 24)).drew.cell? ⟨w.heap.size, 1, none⟩ = some (.bool c) ∧ ((w.alloc (.cells #[.int .i64 s, .bool c, .slice a n cap, .string x] 24)).alloc (.cells #[.int .i64 0, .bool false, .slice none 0 0, .string ByteArray.empty] 24)).drew.cell? ⟨w.heap.size, 3, none⟩ = some (.string x) := ⟨B0.out.1.cell 0, B0.out.1.cell 1, B0.out.1.cell 3⟩
    have B3 := three_blocks w #[.int .i64 s, .bool c, .slice a n cap, .string x] #[.int .i64 0, .bool false, .slice none 0 0, .string ByteArray.empty] #[.int .i64 (md s 4096), .bool c, .slice none 0 0, .string X] 24 24 24
    clear B0
    by_cases hx64 : x.size ≤ 64
    · have hX2 : X = x := by rw [← hX]; unfold gx; rw [if_pos hx64]
      subst hX2
      have c1 : ¬ (64 : Int) < (X.size : Int) := by omega
      have c2 : (X.size : Int) ≤ 64 := by omega
      go_region_held3 (fun V => V.cell? ⟨w.heap.size, 0, none⟩ = some (.int .i64 s) ∧ V.cell? ⟨w.heap.size, 1, none⟩ = some (.bool c) ∧ V.cell? ⟨w.heap.size, 3, none⟩ = some (.string X)) (first | exact S1 | go_keep) (fail)
      all_goals
        go_wp2_with fail
        go_meet
        exact ⟨rfl, B3.out.1, B3.out.2.1, B3.out.2.2.1, B3.out.2.2.2.1.drew, B3.out.2.2.2.2⟩
    · have hX2 : X = x.extract 0 64 := by rw [← hX]; unfold gx; rw [if_neg hx64]
      have c1 : (64 : Int) < (x.size : Int) := by omega
      have c2 : ¬ (x.size : Int) ≤ 64 := by omega
      have c3 : (64 : Int) ≤ (x.size : Int) := by omega
      have c4 : 64 ≤ x.size := by omega
      subst hX2
      clear hX
      go_region_held3 (fun V => V.cell? ⟨w.heap.size, 0, none⟩ = some (.int .i64 s) ∧ V.cell? ⟨w.heap.size, 1, none⟩ = some (.bool c) ∧ V.cell? ⟨w.heap.size, 3, none⟩ = some (.string x)) (first | exact S1 | go_keep) (fail)
      all_goals
        go_wp2_with fail
        go_meet
        exact ⟨rfl, B3.out.1, B3.out.2.1, B3.out.2.2.1, B3.out.2.2.2.1.drew, B3.out.2.2.2.2⟩
  case rest =>
    obtain ⟨rfl, k0, k1, k2, k3, k4⟩ := hcut
    clear B0
    have K0 : Hid (Bk wc w.heap.size (pcc s c (.slice a n cap) x) 24) := k0
    have K1 : Hid (Bk wc (w.heap.size + 1) (pcc 0 false (.slice none 0 0) ByteArray.empty) 24) := k1
    have K2 : Hid (Bk wc (w.heap.size + 1 + 1) (pcc (md s 4096) c (.slice none 0 0) X) 24) := k2
    have K3 : Hid (Below w.heap.size w wc) := k3
    clear k0 k1 k2 k3
    go_wp2_with fail
    go_loopw [4] (fun i wr => ∃ (k : Nat) (v : Value), k ≤ n ∧ k ≤ gL c ∧ i = .int .i64 k ∧ Bk wr w.heap.size (pcc s c (.slice a n cap) x) 24 ∧ Bk wr (w.heap.size + 1) (pcc 0 false (.slice none 0 0) ByteArray.empty) 24 ∧ Bk wr (w.heap.size + 1 + 1) (pcc (md s 4096) c v X) 24 ∧ OwnK 31 2 wr (w.heap.size + 3) v k (pc ((hs.map gh).take k)) ∧ Below w.heap.size w wr ∧ w.heap.size + 3 ≤ wr.heap.size) (fun i _ => n - (RowKit.intOf i).toNat)
    case atStart => exact ⟨0, .slice none 0 0, Nat.zero_le _, Nat.zero_le _, rfl, K0.out, K1.out, K2.out, OwnK.nil _ _ _ _, K3.out, k4⟩
    case round =>
    obtain ⟨k, v, hk, hk12, rfl, h0, h1, h2, own, hb, hsz⟩ := hrel
    have HB : Hid (Below w.heap.size w wr) := hb
    have H0 : Hid (Bk wr w.heap.size (pcc s c (.slice a n cap) x) 24) := h0
    have H1 : Hid (Bk wr (w.heap.size + 1) (pcc 0 false (.slice none 0 0) ByteArray.empty) 24) := h1
    have H2 : Hid (Bk wr (w.heap.size + 1 + 1) (pcc (md s 4096) c v X) 24) := h2
    have HO : Hid (OwnK 31 2 wr (w.heap.size + 3) v k (pc ((hs.map gh).take k))) := own
    have c2 : wr.cell? ⟨w.heap.size, 2, none⟩ = some (.slice a n cap) := h0.cell 2
    have c1 : wr.cell? ⟨w.heap.size, 1, none⟩ = some (.bool c) := h0.cell 1
    clear h0 h1 h2 hb own K0 K1 K2 K3 k4
    have e2 : (0 : Int) ≤ (k : Int) := by omega
    cases c with
    | true =>
      have hk6' : k ≤ 6 := hk12
      by_cases hlt : k < n
      · have e1 : (k : Int) < (n : Int) := by omega
        by_cases hl12 : k < 6
        · have e3 : (k : Int) < 6 := by omega
          obtain ⟨g, o, rfl, hg, c3, c4⟩ := HR.out.pair (k := k) (by rw [HN.out]; exact hlt)
          have hst := ST.out k hlt
          obtain ⟨p, hp⟩ : ∃ p, (hs.getD k (0, 0)).1 = p := ⟨_, rfl⟩
          obtain ⟨q, hq⟩ : ∃ q, (hs.getD k (0, 0)).2 = q := ⟨_, rfl⟩
          rw [hp] at c3 hst
          rw [hq] at c4 hst
          clear hp hq
          have HST : Hid (pc ((hs.map gh).take k) ++ [.int .i64 (md p 4096), .int .i64 (md q 65536)] = pc ((hs.map gh).take (k + 1))) := hst
          have SS : ∀ V, Bk V w.heap.size (pcc s true (.slice (some ⟨g, o, none⟩) n cap) x) 24 → Below w.heap.size w V → V.cell? ⟨w.heap.size, 2, none⟩ = some (.slice (some ⟨g, o, none⟩) n cap) ∧ V.cell? ⟨g, o + k * 2, none⟩ = some (.int .i64 p) ∧ V.cell? ⟨g, o + k * 2 + 1, none⟩ = some (.int .i64 q) :=
            fun V h hb => ⟨h.cell 2, (hb.cell (p := ⟨g, o + k * 2, none⟩) hg).trans c3, (hb.cell (p := ⟨g, o + k * 2 + 1, none⟩) hg).trans c4⟩
          have S1 := SS wr.drew H0.out.drew HB.out.drew
          have A1 : Below wr.heap.size wr ((wr.alloc (.cells #[.int .i64 (md p 4096), .int .i64 (md q 65536)] 31)).drew) := ((Below.refl _ _).alloc (Nat.le_refl _) _).drew
          have S2 := SS ((wr.alloc (.cells #[.int .i64 (md p 4096), .int .i64 (md q 65536)] 31)).drew) (H0.out.next A1) (HB.out.trans (A1.mono HB.out.size))
          have O1 : wr.drew.cell? ⟨w.heap.size + 1 + 1, 2, none⟩ = some v := H2.out.cell 2
          have O2 : ((wr.alloc (.cells #[.int .i64 (md p 4096), .int .i64 (md q 65536)] 31)).drew).cell? ⟨w.heap.size + 1 + 1, 2, none⟩ = some v := (H2.out.next A1).cell 2
          have OW : OwnK 31 2 ((wr.alloc (.cells #[.int .i64 (md p 4096), .int .i64 (md q 65536)] 31)).drew) (w.heap.size + 3) v k (pc ((hs.map gh).take k)) := HO.out.below A1
          have NW : ∀ (j : Nat) (u : Value), ([.int .i64 (md p 4096), .int .i64 (md q 65536)] : List Value)[j]? = some u → ((wr.alloc (.cells #[.int .i64 (md p 4096), .int .i64 (md q 65536)] 31)).drew).cell? ⟨wr.heap.size, j, none⟩ = some u := fun j u hj => by
            have := cell_of (heap_alloc_new wr (.cells #[.int .i64 (md p 4096), .int .i64 (md q 65536)] 31)) j
            exact this.trans (by simpa using hj)
          have ON : ∀ u ∈ ([.int .i64 (md p 4096), .int .i64 (md q 65536)] : List Value), u.oneCell' = true := fun u hu => by
            simp at hu
            rcases hu with rfl | rfl <;> rfl
          have hk6 : k ≤ 1000000 := by omega
          have hbs : w.heap.size + 3 ≤ ((wr.alloc (.cells #[.int .i64 (md p 4096), .int .i64 (md q 65536)] 31)).drew).heap.size := Nat.le_trans hsz A1.size
          have F0 := H0.out.next A1
          have F1 := H1.out.next A1
          have F2 := H2.out.next A1
          have FB := HB.out.trans (A1.mono HB.out.size)
          have n0 : v.ownBlock ≠ some w.heap.size := OW.ne F0 (by decide)
          have n1 : v.ownBlock ≠ some (w.heap.size + 1) := OW.ne F1 (by decide)
          have n2 : v.ownBlock ≠ some (w.heap.size + 1 + 1) := OW.ne F2 (by decide)
          have nl : ∀ r, v.ownBlock = some r → w.heap.size + 3 ≤ r := fun r hr => (OW.lt hr).1
          have nl2 : ∀ r, v.ownBlock = some r → w.heap.size ≤ r := fun r hr => Nat.le_trans (by omega) (nl r hr)
          have hbs2 : w.heap.size ≤ w.heap.size + 1 + 1 := by omega
          have hne2 : w.heap.size ≠ w.heap.size + 1 + 1 := by omega
          have hne3 : w.heap.size + 1 ≠ w.heap.size + 1 + 1 := by omega
          clear c3 c4 hst A1 hg
          go_wp2_with fail
          refine wp_region_G (fun V : World => V.cell? ⟨w.heap.size, 2, none⟩ = some (.slice (some ⟨g, o, none⟩) n cap) ∧ V.cell? ⟨g, o + k * 2, none⟩ = some (.int .i64 p) ∧ V.cell? ⟨g, o + k * 2 + 1, none⟩ = some (.int .i64 q) ∧ V.cell? ⟨w.heap.size + 1 + 1, 2, none⟩ = some v) 24 (by kernel_rfl) ?_
          have S0 : (fun V : World => V.cell? ⟨w.heap.size, 2, none⟩ = some (.slice (some ⟨g, o, none⟩) n cap) ∧ V.cell? ⟨g, o + k * 2, none⟩ = some (.int .i64 p) ∧ V.cell? ⟨g, o + k * 2 + 1, none⟩ = some (.int .i64 q) ∧ V.cell? ⟨w.heap.size + 1 + 1, 2, none⟩ = some v) wr.drew := ⟨S1.1, S1.2.1, S1.2.2, O1⟩
          refine wpAnyG_take [23, 24] (some 39) (i := 0) (v := ?va0) rfl rfl (by kernel_rfl) (by kernel_rfl) (by kernel_rfl) (by kernel_rfl) (fun _ _ _ h => h) (Or.inl ⟨by rfl, ?ya0⟩) S0 ?ra0
          case ya0 => (intro V hSV; obtain ⟨d0, d1, d2, d3⟩ := hSV; go_simp; try with_reducible rfl)
          simp only [Act.put, List.setIfInBounds_toArray, List.set_cons_zero, List.set_cons_succ]
          refine wpAnyG_take [23, 24] (some 40) (i := 1) (v := ?va1) rfl rfl (by kernel_rfl) (by kernel_rfl) (by kernel_rfl) (by kernel_rfl) (fun _ _ _ h => h) (Or.inl ⟨by rfl, ?ya1⟩) S0 ?ra1
          case ya1 => (intro V hSV; obtain ⟨d0, d1, d2, d3⟩ := hSV; go_simp; try with_reducible rfl)
          simp only [Act.put, List.setIfInBounds_toArray, List.set_cons_zero, List.set_cons_succ]
          refine wpAnyG_take [23, 24] (some 41) (i := 2) (v := ?va2) rfl rfl (by kernel_rfl) (by kernel_rfl) (by kernel_rfl) (by kernel_rfl) (fun _ _ _ h => h) (Or.inl ⟨by rfl, ?ya2⟩) S0 ?ra2
          case ya2 => (intro V hSV; obtain ⟨d0, d1, d2, d3⟩ := hSV; go_simp; try with_reducible rfl)
          simp only [Act.put, List.setIfInBounds_toArray, List.set_cons_zero, List.set_cons_succ]
          refine wpAnyG_take [23, 24] (some 42) (i := 3) (v := ?va3) rfl rfl (by kernel_rfl) (by kernel_rfl) (by kernel_rfl) (by kernel_rfl) (fun _ _ _ h => h) (Or.inl ⟨by rfl, ?ya3⟩) S0 ?ra3
          case ya3 => (intro V hSV; obtain ⟨d0, d1, d2, d3⟩ := hSV; go_simp; try with_reducible rfl)
          simp only [Act.put, List.setIfInBounds_toArray, List.set_cons_zero, List.set_cons_succ]
          refine wpAnyG_take [23, 24] (some 43) (i := 4) (v := ?va4) rfl rfl (by kernel_rfl) (by kernel_rfl) (by kernel_rfl) (by kernel_rfl) (fun _ _ _ h => h) (Or.inl ⟨by rfl, ?ya4⟩) S0 ?ra4
          case ya4 => (intro V hSV; obtain ⟨d0, d1, d2, d3⟩ := hSV; go_simp; try with_reducible rfl)
          simp only [Act.put, List.setIfInBounds_toArray, List.set_cons_zero, List.set_cons_succ]
          refine wpAnyG_take [23, 24] (some 44) (i := 5) (v := ?va5) rfl rfl (by kernel_rfl) (by kernel_rfl) (by kernel_rfl) (by kernel_rfl) (fun _ _ _ h => h) (Or.inl ⟨by rfl, ?ya5⟩) S0 ?ra5
          case ya5 => (intro V hSV; obtain ⟨d0, d1, d2, d3⟩ := hSV; go_simp; try with_reducible rfl)
          simp only [Act.put, List.setIfInBounds_toArray, List.set_cons_zero, List.set_cons_succ]
          refine wpAnyG_take [23, 24] (some 45) (i := 6) (v := ?va6) rfl rfl (by kernel_rfl) (by kernel_rfl) (by kernel_rfl) (by kernel_rfl) (fun _ _ _ h => h) (Or.inl ⟨by rfl, ?ya6⟩) S0 ?ra6
          case ya6 => (intro V hSV; obtain ⟨d0, d1, d2, d3⟩ := hSV; go_simp; try with_reducible rfl)
          simp only [Act.put, List.setIfInBounds_toArray, List.set_cons_zero, List.set_cons_succ]
          refine wpAnyG_take [23, 24] (some 46) (i := 7) (v := ?va7) rfl rfl (by kernel_rfl) (by kernel_rfl) (by kernel_rfl) (by kernel_rfl) (fun _ _ _ h => h) (Or.inl ⟨by rfl, ?ya7⟩) S0 ?ra7
          case ya7 => (intro V hSV; obtain ⟨d0, d1, d2, d3⟩ := hSV; go_simp; try with_reducible rfl)
          simp only [Act.put, List.setIfInBounds_toArray, List.set_cons_zero, List.set_cons_succ]
          refine wpAnyG_take [23, 24] (some 47) (i := 8) (v := ?va8) rfl rfl (by kernel_rfl) (by kernel_rfl) (by kernel_rfl) (by kernel_rfl) (fun _ _ _ h => h) (Or.inl ⟨by rfl, ?ya8⟩) S0 ?ra8
          case ya8 => (intro V hSV; obtain ⟨d0, d1, d2, d3⟩ := hSV; go_simp; try with_reducible rfl)
          simp only [Act.put, List.setIfInBounds_toArray, List.set_cons_zero, List.set_cons_succ]
          refine wpAnyG_take [23, 24] (some 48) (i := 9) (v := ?va9) rfl rfl (by kernel_rfl) (by kernel_rfl) (by kernel_rfl) (by kernel_rfl) (fun _ _ _ h => h) (Or.inl ⟨by rfl, ?ya9⟩) S0 ?ra9
          case ya9 => (intro V hSV; obtain ⟨d0, d1, d2, d3⟩ := hSV; go_simp; try with_reducible rfl)
          simp only [Act.put, List.setIfInBounds_toArray, List.set_cons_zero, List.set_cons_succ]
          refine wpAnyG_take [23, 24] (some 49) (i := 10) (v := ?va10) rfl rfl (by kernel_rfl) (by kernel_rfl) (by kernel_rfl) (by kernel_rfl) (fun _ _ _ h => h) (Or.inl ⟨by rfl, ?ya10⟩) S0 ?ra10
          case ya10 => (intro V hSV; obtain ⟨d0, d1, d2, d3⟩ := hSV; go_simp; try with_reducible rfl)
          simp only [Act.put, List.setIfInBounds_toArray, List.set_cons_zero, List.set_cons_succ]
          refine wpAnyG_take [23, 24] (some 50) (i := 11) (v := ?va11) rfl rfl (by kernel_rfl) (by kernel_rfl) (by kernel_rfl) (by kernel_rfl) (fun _ _ _ h => h) (Or.inl ⟨by rfl, ?ya11⟩) S0 ?ra11
          case ya11 => (intro V hSV; obtain ⟨d0, d1, d2, d3⟩ := hSV; go_simp; try with_reducible rfl)
          simp only [Act.put, List.setIfInBounds_toArray, List.set_cons_zero, List.set_cons_succ]
          refine wpAnyG_take [23, 24] (some 51) (i := 12) (v := ?va12) rfl rfl (by kernel_rfl) (by kernel_rfl) (by kernel_rfl) (by kernel_rfl) (fun _ _ _ h => h) (Or.inl ⟨by rfl, ?ya12⟩) S0 ?ra12
          case ya12 => (intro V hSV; obtain ⟨d0, d1, d2, d3⟩ := hSV; go_simp; try with_reducible rfl)
          simp only [Act.put, List.setIfInBounds_toArray, List.set_cons_zero, List.set_cons_succ]
          refine wpAnyG_take [23, 24] (some 52) (i := 13) (v := ?va13) rfl rfl (by kernel_rfl) (by kernel_rfl) (by kernel_rfl) (by kernel_rfl) (fun _ _ _ h => h) (Or.inl ⟨by rfl, ?ya13⟩) S0 ?ra13
          case ya13 => (intro V hSV; obtain ⟨d0, d1, d2, d3⟩ := hSV; go_simp; try with_reducible rfl)
          simp only [Act.put, List.setIfInBounds_toArray, List.set_cons_zero, List.set_cons_succ]
          refine wpAnyG_take [23, 24] (some 53) (i := 14) (v := ?va14) rfl rfl (by kernel_rfl) (by kernel_rfl) (by kernel_rfl) (by kernel_rfl) (fun _ _ _ h => h) (Or.inl ⟨by rfl, ?ya14⟩) S0 ?ra14
          case ya14 => (intro V hSV; obtain ⟨d0, d1, d2, d3⟩ := hSV; go_simp; try with_reducible rfl)
          simp only [Act.put, List.setIfInBounds_toArray, List.set_cons_zero, List.set_cons_succ]
          refine wpAnyG_take [23, 24] (some 54) (i := 15) (v := ?va15) rfl rfl (by kernel_rfl) (by kernel_rfl) (by kernel_rfl) (by kernel_rfl) (fun _ _ _ h => h) (Or.inl ⟨by rfl, ?ya15⟩) S0 ?ra15
          case ya15 => (intro V hSV; obtain ⟨d0, d1, d2, d3⟩ := hSV; go_simp; try with_reducible rfl)
          simp only [Act.put, List.setIfInBounds_toArray, List.set_cons_zero, List.set_cons_succ]
          refine wpAnyG_take [23, 24] (some 55) (i := 16) (v := ?va16) rfl rfl (by kernel_rfl) (by kernel_rfl) (by kernel_rfl) (by kernel_rfl) (fun _ _ _ h => h) (Or.inl ⟨by rfl, ?ya16⟩) S0 ?ra16
          case ya16 => (intro V hSV; obtain ⟨d0, d1, d2, d3⟩ := hSV; go_simp; try with_reducible rfl)
          simp only [Act.put, List.setIfInBounds_toArray, List.set_cons_zero, List.set_cons_succ]
          refine wpAnyG_take [23, 24] (some 56) (i := 17) (v := ?va17) rfl rfl (by kernel_rfl) (by kernel_rfl) (by kernel_rfl) (by kernel_rfl) (fun _ _ _ h => h) (Or.inl ⟨by rfl, ?ya17⟩) S0 ?ra17
          case ya17 => (intro V hSV; obtain ⟨d0, d1, d2, d3⟩ := hSV; go_simp; try with_reducible rfl)
          simp only [Act.put, List.setIfInBounds_toArray, List.set_cons_zero, List.set_cons_succ]
          refine wpAnyG_take [23, 24] (some 57) (i := 18) (v := ?va18) rfl rfl (by kernel_rfl) (by kernel_rfl) (by kernel_rfl) (by kernel_rfl) (fun _ _ _ h => h) (Or.inl ⟨by rfl, ?ya18⟩) S0 ?ra18
          case ya18 => (intro V hSV; obtain ⟨d0, d1, d2, d3⟩ := hSV; go_simp; try with_reducible rfl)
          simp only [Act.put, List.setIfInBounds_toArray, List.set_cons_zero, List.set_cons_succ]
          refine wpAnyG_take [23, 24] (some 58) (i := 19) (v := ?va19) rfl rfl (by kernel_rfl) (by kernel_rfl) (by kernel_rfl) (by kernel_rfl) (fun _ _ _ h => h) (Or.inl ⟨by rfl, ?ya19⟩) S0 ?ra19
          case ya19 => (intro V hSV; obtain ⟨d0, d1, d2, d3⟩ := hSV; go_simp; try with_reducible rfl)
          simp only [Act.put, List.setIfInBounds_toArray, List.set_cons_zero, List.set_cons_succ]
          refine wpAnyG_take [23, 24] (some 59) (i := 20) (v := ?va20) rfl rfl (by kernel_rfl) (by kernel_rfl) (by kernel_rfl) (by kernel_rfl) (fun _ _ _ h => h) (Or.inl ⟨by rfl, ?ya20⟩) S0 ?ra20
          case ya20 => (intro V hSV; obtain ⟨d0, d1, d2, d3⟩ := hSV; go_simp; try with_reducible rfl)
          simp only [Act.put, List.setIfInBounds_toArray, List.set_cons_zero, List.set_cons_succ]
          refine wpAnyG_one (i := 21) (by kernel_rfl) rfl (fun K hK => ?_)
          go_simp
          refine hK.out _ _ (Or.inr ⟨S2.1, S2.2.1, S2.2.2, O2⟩) ?_
          clear hK K
          refine wpAnyG_one (i := 22) (by kernel_rfl) rfl (fun K hK => ?_)
          refine step_app_k (by rfl) _ _ 22 31 i0 (.agg #[.int .i64 0, .int .i64 0]) 2 16 (by rfl) Try.underlying22 ki hz0 hz1 hz2 rfl (by decide) (by decide) (w.heap.size + 3) _ v k (pc ((hs.map gh).take k)) [.int .i64 (md p 4096), .int .i64 (md q 65536)] wr.heap.size (by rfl) OW (by rfl) rfl NW ON hk6 hbs ?_
          intro v1' wb ow gw
          obtain ⟨ra, za, rfl, -, -, -⟩ := ow.rd (by decide)
          have G0 := F0.kept gw n0
          have G1 := F1.kept gw n1
          have G2 := F2.kept gw n2
          have GB := Below.grown FB gw (Nat.le_of_lt F0.lt) nl2
          have GS := Nat.le_trans hbs gw.size
          have C3 := G2.cell 2
          have Z3 := G2.free 2
          have S3 := SS wb G0 GB
          have S4 : (fun V : World => V.cell? ⟨w.heap.size, 2, none⟩ = some (.slice (some ⟨g, o, none⟩) n cap) ∧ V.cell? ⟨g, o + k * 2, none⟩ = some (.int .i64 p) ∧ V.cell? ⟨g, o + k * 2 + 1, none⟩ = some (.int .i64 q) ∧ V.cell? ⟨w.heap.size + 1 + 1, 2, none⟩ = some v) wb := ⟨S3.1, S3.2.1, S3.2.2, C3⟩
          refine hK.out _ _ (Or.inr S4) ?_
          clear hK K
          simp only [Act.put, List.setIfInBounds_toArray]
          refine wpAnyG_take [24] (some 62) (i := 23) (v := ?va23) rfl rfl (by kernel_rfl) (by kernel_rfl) (by kernel_rfl) (by kernel_rfl) (fun _ _ _ h => h) (Or.inl ⟨by rfl, ?ya23⟩) S4 ?ra23
          case ya23 => (intro V hSV; obtain ⟨d0, d1, d2, d3⟩ := hSV; go_simp; try with_reducible rfl)
          simp only [Act.put]
          refine wpAnyG_one (i := 24) (by kernel_rfl) rfl (fun K hK => ?_)
          go_simp
          refine hK.out _ _ (Or.inl (by kernel_rfl)) ?_
          clear hK K
          refine wpAnyG_done (by kernel_rfl) ?_ _
          have X0 : Hid (Bk (wb.setCell ⟨w.heap.size + 1 + 1, 2, none⟩ (.slice ra (k + 1) za)) w.heap.size (pcc s true (.slice (some ⟨g, o, none⟩) n cap) x) 24) := G0.far hne2
          have X1 : Hid (Bk (wb.setCell ⟨w.heap.size + 1 + 1, 2, none⟩ (.slice ra (k + 1) za)) (w.heap.size + 1) (pcc 0 false (.slice none 0 0) ByteArray.empty) 24) := G1.far hne3
          have X2 : Hid (Bk (wb.setCell ⟨w.heap.size + 1 + 1, 2, none⟩ (.slice ra (k + 1) za)) (w.heap.size + 1 + 1) (pcc (md s 4096) true (.slice ra (k + 1) za) X) 24) := G2.two _
          have XB : Hid (Below w.heap.size w (wb.setCell ⟨w.heap.size + 1 + 1, 2, none⟩ (.slice ra (k + 1) za))) := GB.setCell hbs2 _
          have XS : Hid (w.heap.size + 3 ≤ (wb.setCell ⟨w.heap.size + 1 + 1, 2, none⟩ (.slice ra (k + 1) za)).heap.size) := by unfold Hid; simpa using GS
          have XO : Hid (OwnK 31 2 (wb.setCell ⟨w.heap.size + 1 + 1, 2, none⟩ (.slice ra (k + 1) za)) (w.heap.size + 3) (.slice ra (k + 1) za) (k + 1) (pc ((hs.map gh).take (k + 1)))) := by
            rw [HST.out] at ow
            exact ow.far (by omega)
          clear G0 G1 G2 GB GS C3 Z3 S3 S4 ow gw S1 S2 O1 O2 OW NW ON F0 F1 F2 FB n0 n1 n2 nl nl2 SS S0 HB H0 H1 H2 HO c2
          go_wp2
          go_roundw
          case rel => exact ⟨k + 1, .slice ra (k + 1) za, by omega, by simp [gL]; omega, by go_num, X0.out, X1.out, X2.out, XO.out, XB.out, XS.out⟩
          case measure => simp [RowKit.intOf]; omega
        · have e3 : ¬ (k : Int) < 6 := by omega
          have D0 := H2.out.cell 0
          have D1 := H2.out.cell 1
          have D2 := H2.out.cell 2
          have D3 := H2.out.cell 3
          have U2 := H2.out.free 2
          have Z0 := H1.out.free 0
          have Z1 := H1.out.free 1
          have Z2 := H1.out.free 2
          have Z3 := H1.out.free 3
          have Y0 := H1.out.cell 0
          have Y1 := H1.out.cell 1
          have Y2 := H1.out.cell 2
          have Y3 := H1.out.cell 3
          simp at D0 D1 D2 D3 Y0 Y1 Y2 Y3
          have hz : w.heap.size + 1 < wr.heap.size := by omega
          have hz3 : w.heap.size + 1 + 1 < wr.heap.size := by omega
          by_cases hn0 : n = 0
          · omega
          · obtain ⟨E1, E2, E3⟩ := (EN.out k hk hk12 (by first | omega | (right; simp [gL]; omega))).2 hn0
            have f3 : ¬ (k : Int) = 0 := by omega
            obtain ⟨ra, za, rfl, hcz, _, rr⟩ := HO.out.rd (by decide)
            clear rr
            go_wp2
            refine bodyPost_ret (v := pcv (md s 4096) true (.slice ra k za) X) (by simp [results, Try.results9, go_sem, Y0, Y1, Y2, Y3]) rfl ⟨ra, za, by first | rfl | rw [E2], by first | exact hcz | (rw [E2]; exact hcz), ?_, below_four HB.out (Nat.le_succ _) _ _ _ _, ?_⟩
            rotate_left
            · rintro y rfl
              have h9 := HO.out
              rcases h9.2 with ⟨h8, _⟩ | ⟨g9, c9, u9, h8, h7, h6, _⟩
              · simp at h8
              · simp only [Value.slice.injEq, Option.some.injEq] at h8
                rw [h8.1]
                exact ⟨by show w.heap.size ≤ g9; omega, u9, _, ((((show Bk _ g9 u9 _ from h6).far (by omega)).far (by omega)).far (by omega)).far (by omega)⟩
            have own : OwnK 31 2 _ (w.heap.size + 3) (.slice ra k za) k (pc ((hs.map gh).take k)) := (((HO.out.far (b := w.heap.size + 1) (j := 0) (x := .int .i64 (md s 4096)) (by omega)).far (b := w.heap.size + 1) (j := 1) (x := .bool true) (by omega)).far (b := w.heap.size + 1) (j := 2) (x := .slice ra k za) (by omega)).far (b := w.heap.size + 1) (j := 3) (x := .string X) (by omega)
            obtain ⟨a', c', e', _, _, rd⟩ := own.rd (by decide)
            simp only [Value.slice.injEq] at e'
            obtain ⟨rfl, _, _⟩ := e'
            rw [E1] at rd
            exact rd
      · have e1 : ¬ (k : Int) < (n : Int) := by omega
        have D0 := H2.out.cell 0
        have D1 := H2.out.cell 1
        have D2 := H2.out.cell 2
        have D3 := H2.out.cell 3
        have U2 := H2.out.free 2
        have Z0 := H1.out.free 0
        have Z1 := H1.out.free 1
        have Z2 := H1.out.free 2
        have Z3 := H1.out.free 3
        have Y0 := H1.out.cell 0
        have Y1 := H1.out.cell 1
        have Y2 := H1.out.cell 2
        have Y3 := H1.out.cell 3
        simp at D0 D1 D2 D3 Y0 Y1 Y2 Y3
        have hz : w.heap.size + 1 < wr.heap.size := by omega
        have hz3 : w.heap.size + 1 + 1 < wr.heap.size := by omega
        by_cases hn0 : n = 0
        · have hk0 : k = 0 := by omega
          have f3 : (k : Int) = 0 := by omega
          have eG : GH = [(1, 0)] := (EN.out k hk hk12 (by left; omega)).1 hn0
          subst eG
          obtain ⟨ra, za, rfl, _, _, rr⟩ := HO.out.rd (by decide)
          clear rr
          have hz4 : ¬ wr.heap.size = w.heap.size + 1 := by omega
          have hz5 : ¬ wr.heap.size = w.heap.size + 1 + 1 := by omega
          have hz6 : ¬ w.heap.size + 1 = w.heap.size + 1 + 1 := by omega
          have hz7 : ¬ w.heap.size + 1 + 1 = w.heap.size + 1 := by omega
          have eS : (wr.setCell ⟨w.heap.size + 1 + 1, 2, none⟩ (.slice (some ⟨wr.heap.size, 0, none⟩) 1 1)).heap.size = wr.heap.size := by simp
          have XB : Hid (Below w.heap.size w ((wr.setCell ⟨w.heap.size + 1 + 1, 2, none⟩ (.slice (some ⟨wr.heap.size, 0, none⟩) 1 1)).alloc (.cells #[.int .i64 1, .int .i64 0] 31))) := (HB.out.setCell (by simp; omega) _).alloc (by simp; omega) _
          have XN : Hid (Bk ((wr.setCell ⟨w.heap.size + 1 + 1, 2, none⟩ (.slice (some ⟨wr.heap.size, 0, none⟩) 1 1)).alloc (.cells #[.int .i64 1, .int .i64 0] 31)) wr.heap.size #[.int .i64 1, .int .i64 0] 31) := by
            have := Bk.new (wr.setCell ⟨w.heap.size + 1 + 1, 2, none⟩ (.slice (some ⟨wr.heap.size, 0, none⟩) 1 1)) #[.int .i64 1, .int .i64 0] 31
            rw [eS] at this
            exact this
          have X1 : Bk ((wr.setCell ⟨w.heap.size + 1 + 1, 2, none⟩ (.slice (some ⟨wr.heap.size, 0, none⟩) 1 1)).alloc (.cells #[.int .i64 1, .int .i64 0] 31)) (w.heap.size + 1) (pcc 0 false (.slice none 0 0) ByteArray.empty) 24 := (H1.out.far hz6).alloc _
          have X2 : Bk ((wr.setCell ⟨w.heap.size + 1 + 1, 2, none⟩ (.slice (some ⟨wr.heap.size, 0, none⟩) 1 1)).alloc (.cells #[.int .i64 1, .int .i64 0] 31)) (w.heap.size + 1 + 1) (pcc (md s 4096) true (.slice (some ⟨wr.heap.size, 0, none⟩) 1 1) X) 24 := (H2.out.two _).alloc _
          have hz8 : w.heap.size + 1 < ((wr.setCell ⟨w.heap.size + 1 + 1, 2, none⟩ (.slice (some ⟨wr.heap.size, 0, none⟩) 1 1)).alloc (.cells #[.int .i64 1, .int .i64 0] 31)).heap.size := X1.lt
          have hz9 : w.heap.size + 1 + 1 < ((wr.setCell ⟨w.heap.size + 1 + 1, 2, none⟩ (.slice (some ⟨wr.heap.size, 0, none⟩) 1 1)).alloc (.cells #[.int .i64 1, .int .i64 0] 31)).heap.size := X2.lt
          go_upto_region 8 with fail
          clear eS
          generalize (wr.setCell ⟨w.heap.size + 1 + 1, 2, none⟩ (.slice (some ⟨wr.heap.size, 0, none⟩) 1 1)).alloc (.cells #[.int .i64 1, .int .i64 0] 31) = wf at *
          clear Z0 Z1 Z2 Z3 Y0 Y1 Y2 Y3 D0 D1 D2 D3
          have D0 := X2.cell 0
          have D1 := X2.cell 1
          have D2 := X2.cell 2
          have D3 := X2.cell 3
          have Z0 := X1.free 0
          have Z1 := X1.free 1
          have Z2 := X1.free 2
          have Z3 := X1.free 3
          have Y0 := X1.cell 0
          have Y1 := X1.cell 1
          have Y2 := X1.cell 2
          have Y3 := X1.cell 3
          clear X1 X2
          simp at D0 D1 D2 D3 Y0 Y1 Y2 Y3
          go_wp2
          have nw := (((XN.out.far (k := w.heap.size + 1) (j := 0) (x := .int .i64 (md s 4096)) hz4).far (k := w.heap.size + 1) (j := 1) (x := .bool true) hz4).far (k := w.heap.size + 1) (j := 2) (x := .slice (some ⟨wr.heap.size, 0, none⟩) 1 1) hz4).far (k := w.heap.size + 1) (j := 3) (x := .string X) hz4
          refine bodyPost_ret (v := pcv (md s 4096) true (.slice (some ⟨wr.heap.size, 0, none⟩) 1 1) X) (by simp [results, Try.results9, go_sem, Y0, Y1, Y2, Y3]) rfl ⟨some ⟨wr.heap.size, 0, none⟩, 1, rfl, Nat.le_refl _, ?_, below_four XB.out (Nat.le_succ _) _ _ _ _, fun y hy => by have h9 := HB.out.size; cases hy; exact ⟨h9, _, _, nw⟩⟩
          intro j u hj
          refine ⟨wr.heap.size, 0, rfl, nw.lt, ?_⟩
          rw [Nat.zero_add, nw.cell]
          simpa [pc] using hj
        · obtain ⟨E1, E2, E3⟩ := (EN.out k hk hk12 (by first | omega | (right; simp [gL]; omega))).2 hn0
          have f3 : ¬ (k : Int) = 0 := by omega
          obtain ⟨ra, za, rfl, hcz, _, rr⟩ := HO.out.rd (by decide)
          clear rr
          go_wp2
          refine bodyPost_ret (v := pcv (md s 4096) true (.slice ra k za) X) (by simp [results, Try.results9, go_sem, Y0, Y1, Y2, Y3]) rfl ⟨ra, za, by first | rfl | rw [E2], by first | exact hcz | (rw [E2]; exact hcz), ?_, below_four HB.out (Nat.le_succ _) _ _ _ _, ?_⟩
          rotate_left
          · rintro y rfl
            have h9 := HO.out
            rcases h9.2 with ⟨h8, _⟩ | ⟨g9, c9, u9, h8, h7, h6, _⟩
            · simp at h8
            · simp only [Value.slice.injEq, Option.some.injEq] at h8
              rw [h8.1]
              exact ⟨by show w.heap.size ≤ g9; omega, u9, _, ((((show Bk _ g9 u9 _ from h6).far (by omega)).far (by omega)).far (by omega)).far (by omega)⟩
          have own : OwnK 31 2 _ (w.heap.size + 3) (.slice ra k za) k (pc ((hs.map gh).take k)) := (((HO.out.far (b := w.heap.size + 1) (j := 0) (x := .int .i64 (md s 4096)) (by omega)).far (b := w.heap.size + 1) (j := 1) (x := .bool true) (by omega)).far (b := w.heap.size + 1) (j := 2) (x := .slice ra k za) (by omega)).far (b := w.heap.size + 1) (j := 3) (x := .string X) (by omega)
          obtain ⟨a', c', e', _, _, rd⟩ := own.rd (by decide)
          simp only [Value.slice.injEq] at e'
          obtain ⟨rfl, _, _⟩ := e'
          rw [E1] at rd
          exact rd
    | false =>
      have hk6' : k ≤ 1 := hk12
      have e3 : (k : Int) < 6 := by omega
      by_cases hlt : k < n
      · have e1 : (k : Int) < (n : Int) := by omega
        by_cases hl12 : k < 1
        · have e4 : (k : Int) < 1 := by omega
          obtain ⟨g, o, rfl, hg, c3, c4⟩ := HR.out.pair (k := k) (by rw [HN.out]; exact hlt)
          have hst := ST.out k hlt
          obtain ⟨p, hp⟩ : ∃ p, (hs.getD k (0, 0)).1 = p := ⟨_, rfl⟩
          obtain ⟨q, hq⟩ : ∃ q, (hs.getD k (0, 0)).2 = q := ⟨_, rfl⟩
          rw [hp] at c3 hst
          rw [hq] at c4 hst
          clear hp hq
          have HST : Hid (pc ((hs.map gh).take k) ++ [.int .i64 (md p 4096), .int .i64 (md q 65536)] = pc ((hs.map gh).take (k + 1))) := hst
          have SS : ∀ V, Bk V w.heap.size (pcc s false (.slice (some ⟨g, o, none⟩) n cap) x) 24 → Below w.heap.size w V → V.cell? ⟨w.heap.size, 2, none⟩ = some (.slice (some ⟨g, o, none⟩) n cap) ∧ V.cell? ⟨g, o + k * 2, none⟩ = some (.int .i64 p) ∧ V.cell? ⟨g, o + k * 2 + 1, none⟩ = some (.int .i64 q) :=
            fun V h hb => ⟨h.cell 2, (hb.cell (p := ⟨g, o + k * 2, none⟩) hg).trans c3, (hb.cell (p := ⟨g, o + k * 2 + 1, none⟩) hg).trans c4⟩
          have S1 := SS wr.drew H0.out.drew HB.out.drew
          have A1 : Below wr.heap.size wr ((wr.alloc (.cells #[.int .i64 (md p 4096), .int .i64 (md q 65536)] 31)).drew) := ((Below.refl _ _).alloc (Nat.le_refl _) _).drew
          have S2 := SS ((wr.alloc (.cells #[.int .i64 (md p 4096), .int .i64 (md q 65536)] 31)).drew) (H0.out.next A1) (HB.out.trans (A1.mono HB.out.size))
          have O1 : wr.drew.cell? ⟨w.heap.size + 1 + 1, 2, none⟩ = some v := H2.out.cell 2
          have O2 : ((wr.alloc (.cells #[.int .i64 (md p 4096), .int .i64 (md q 65536)] 31)).drew).cell? ⟨w.heap.size + 1 + 1, 2, none⟩ = some v := (H2.out.next A1).cell 2
          have OW : OwnK 31 2 ((wr.alloc (.cells #[.int .i64 (md p 4096), .int .i64 (md q 65536)] 31)).drew) (w.heap.size + 3) v k (pc ((hs.map gh).take k)) := HO.out.below A1
          have NW : ∀ (j : Nat) (u : Value), ([.int .i64 (md p 4096), .int .i64 (md q 65536)] : List Value)[j]? = some u → ((wr.alloc (.cells #[.int .i64 (md p 4096), .int .i64 (md q 65536)] 31)).drew).cell? ⟨wr.heap.size, j, none⟩ = some u := fun j u hj => by
            have := cell_of (heap_alloc_new wr (.cells #[.int .i64 (md p 4096), .int .i64 (md q 65536)] 31)) j
            exact this.trans (by simpa using hj)
          have ON : ∀ u ∈ ([.int .i64 (md p 4096), .int .i64 (md q 65536)] : List Value), u.oneCell' = true := fun u hu => by
            simp at hu
            rcases hu with rfl | rfl <;> rfl
          have hk6 : k ≤ 1000000 := by omega
          have hbs : w.heap.size + 3 ≤ ((wr.alloc (.cells #[.int .i64 (md p 4096), .int .i64 (md q 65536)] 31)).drew).heap.size := Nat.le_trans hsz A1.size
          have F0 := H0.out.next A1
          have F1 := H1.out.next A1
          have F2 := H2.out.next A1
          have FB := HB.out.trans (A1.mono HB.out.size)
          have n0 : v.ownBlock ≠ some w.heap.size := OW.ne F0 (by decide)
          have n1 : v.ownBlock ≠ some (w.heap.size + 1) := OW.ne F1 (by decide)
          have n2 : v.ownBlock ≠ some (w.heap.size + 1 + 1) := OW.ne F2 (by decide)
          have nl : ∀ r, v.ownBlock = some r → w.heap.size + 3 ≤ r := fun r hr => (OW.lt hr).1
          have nl2 : ∀ r, v.ownBlock = some r → w.heap.size ≤ r := fun r hr => Nat.le_trans (by omega) (nl r hr)
          have hbs2 : w.heap.size ≤ w.heap.size + 1 + 1 := by omega
          have hne2 : w.heap.size ≠ w.heap.size + 1 + 1 := by omega
          have hne3 : w.heap.size + 1 ≠ w.heap.size + 1 + 1 := by omega
          clear c3 c4 hst A1 hg
          go_wp2_with fail
          refine wp_region_G (fun V : World => V.cell? ⟨w.heap.size, 2, none⟩ = some (.slice (some ⟨g, o, none⟩) n cap) ∧ V.cell? ⟨g, o + k * 2, none⟩ = some (.int .i64 p) ∧ V.cell? ⟨g, o + k * 2 + 1, none⟩ = some (.int .i64 q) ∧ V.cell? ⟨w.heap.size + 1 + 1, 2, none⟩ = some v) 24 (by kernel_rfl) ?_
          have S0 : (fun V : World => V.cell? ⟨w.heap.size, 2, none⟩ = some (.slice (some ⟨g, o, none⟩) n cap) ∧ V.cell? ⟨g, o + k * 2, none⟩ = some (.int .i64 p) ∧ V.cell? ⟨g, o + k * 2 + 1, none⟩ = some (.int .i64 q) ∧ V.cell? ⟨w.heap.size + 1 + 1, 2, none⟩ = some v) wr.drew := ⟨S1.1, S1.2.1, S1.2.2, O1⟩
          refine wpAnyG_take [23, 24] (some 39) (i := 0) (v := ?vb0) rfl rfl (by kernel_rfl) (by kernel_rfl) (by kernel_rfl) (by kernel_rfl) (fun _ _ _ h => h) (Or.inl ⟨by rfl, ?yb0⟩) S0 ?rb0
          case yb0 => (intro V hSV; obtain ⟨d0, d1, d2, d3⟩ := hSV; go_simp; try with_reducible rfl)
          simp only [Act.put, List.setIfInBounds_toArray, List.set_cons_zero, List.set_cons_succ]
          refine wpAnyG_take [23, 24] (some 40) (i := 1) (v := ?vb1) rfl rfl (by kernel_rfl) (by kernel_rfl) (by kernel_rfl) (by kernel_rfl) (fun _ _ _ h => h) (Or.inl ⟨by rfl, ?yb1⟩) S0 ?rb1
          case yb1 => (intro V hSV; obtain ⟨d0, d1, d2, d3⟩ := hSV; go_simp; try with_reducible rfl)
          simp only [Act.put, List.setIfInBounds_toArray, List.set_cons_zero, List.set_cons_succ]
          refine wpAnyG_take [23, 24] (some 41) (i := 2) (v := ?vb2) rfl rfl (by kernel_rfl) (by kernel_rfl) (by kernel_rfl) (by kernel_rfl) (fun _ _ _ h => h) (Or.inl ⟨by rfl, ?yb2⟩) S0 ?rb2
          case yb2 => (intro V hSV; obtain ⟨d0, d1, d2, d3⟩ := hSV; go_simp; try with_reducible rfl)
          simp only [Act.put, List.setIfInBounds_toArray, List.set_cons_zero, List.set_cons_succ]
          refine wpAnyG_take [23, 24] (some 42) (i := 3) (v := ?vb3) rfl rfl (by kernel_rfl) (by kernel_rfl) (by kernel_rfl) (by kernel_rfl) (fun _ _ _ h => h) (Or.inl ⟨by rfl, ?yb3⟩) S0 ?rb3
          case yb3 => (intro V hSV; obtain ⟨d0, d1, d2, d3⟩ := hSV; go_simp; try with_reducible rfl)
          simp only [Act.put, List.setIfInBounds_toArray, List.set_cons_zero, List.set_cons_succ]
          refine wpAnyG_take [23, 24] (some 43) (i := 4) (v := ?vb4) rfl rfl (by kernel_rfl) (by kernel_rfl) (by kernel_rfl) (by kernel_rfl) (fun _ _ _ h => h) (Or.inl ⟨by rfl, ?yb4⟩) S0 ?rb4
          case yb4 => (intro V hSV; obtain ⟨d0, d1, d2, d3⟩ := hSV; go_simp; try with_reducible rfl)
          simp only [Act.put, List.setIfInBounds_toArray, List.set_cons_zero, List.set_cons_succ]
          refine wpAnyG_take [23, 24] (some 44) (i := 5) (v := ?vb5) rfl rfl (by kernel_rfl) (by kernel_rfl) (by kernel_rfl) (by kernel_rfl) (fun _ _ _ h => h) (Or.inl ⟨by rfl, ?yb5⟩) S0 ?rb5
          case yb5 => (intro V hSV; obtain ⟨d0, d1, d2, d3⟩ := hSV; go_simp; try with_reducible rfl)
          simp only [Act.put, List.setIfInBounds_toArray, List.set_cons_zero, List.set_cons_succ]
          refine wpAnyG_take [23, 24] (some 45) (i := 6) (v := ?vb6) rfl rfl (by kernel_rfl) (by kernel_rfl) (by kernel_rfl) (by kernel_rfl) (fun _ _ _ h => h) (Or.inl ⟨by rfl, ?yb6⟩) S0 ?rb6
          case yb6 => (intro V hSV; obtain ⟨d0, d1, d2, d3⟩ := hSV; go_simp; try with_reducible rfl)
          simp only [Act.put, List.setIfInBounds_toArray, List.set_cons_zero, List.set_cons_succ]
          refine wpAnyG_take [23, 24] (some 46) (i := 7) (v := ?vb7) rfl rfl (by kernel_rfl) (by kernel_rfl) (by kernel_rfl) (by kernel_rfl) (fun _ _ _ h => h) (Or.inl ⟨by rfl, ?yb7⟩) S0 ?rb7
          case yb7 => (intro V hSV; obtain ⟨d0, d1, d2, d3⟩ := hSV; go_simp; try with_reducible rfl)
          simp only [Act.put, List.setIfInBounds_toArray, List.set_cons_zero, List.set_cons_succ]
          refine wpAnyG_take [23, 24] (some 47) (i := 8) (v := ?vb8) rfl rfl (by kernel_rfl) (by kernel_rfl) (by kernel_rfl) (by kernel_rfl) (fun _ _ _ h => h) (Or.inl ⟨by rfl, ?yb8⟩) S0 ?rb8
          case yb8 => (intro V hSV; obtain ⟨d0, d1, d2, d3⟩ := hSV; go_simp; try with_reducible rfl)
          simp only [Act.put, List.setIfInBounds_toArray, List.set_cons_zero, List.set_cons_succ]
          refine wpAnyG_take [23, 24] (some 48) (i := 9) (v := ?vb9) rfl rfl (by kernel_rfl) (by kernel_rfl) (by kernel_rfl) (by kernel_rfl) (fun _ _ _ h => h) (Or.inl ⟨by rfl, ?yb9⟩) S0 ?rb9
          case yb9 => (intro V hSV; obtain ⟨d0, d1, d2, d3⟩ := hSV; go_simp; try with_reducible rfl)
          simp only [Act.put, List.setIfInBounds_toArray, List.set_cons_zero, List.set_cons_succ]
          refine wpAnyG_take [23, 24] (some 49) (i := 10) (v := ?vb10) rfl rfl (by kernel_rfl) (by kernel_rfl) (by kernel_rfl) (by kernel_rfl) (fun _ _ _ h => h) (Or.inl ⟨by rfl, ?yb10⟩) S0 ?rb10
          case yb10 => (intro V hSV; obtain ⟨d0, d1, d2, d3⟩ := hSV; go_simp; try with_reducible rfl)
          simp only [Act.put, List.setIfInBounds_toArray, List.set_cons_zero, List.set_cons_succ]
          refine wpAnyG_take [23, 24] (some 50) (i := 11) (v := ?vb11) rfl rfl (by kernel_rfl) (by kernel_rfl) (by kernel_rfl) (by kernel_rfl) (fun _ _ _ h => h) (Or.inl ⟨by rfl, ?yb11⟩) S0 ?rb11
          case yb11 => (intro V hSV; obtain ⟨d0, d1, d2, d3⟩ := hSV; go_simp; try with_reducible rfl)
          simp only [Act.put, List.setIfInBounds_toArray, List.set_cons_zero, List.set_cons_succ]
          refine wpAnyG_take [23, 24] (some 51) (i := 12) (v := ?vb12) rfl rfl (by kernel_rfl) (by kernel_rfl) (by kernel_rfl) (by kernel_rfl) (fun _ _ _ h => h) (Or.inl ⟨by rfl, ?yb12⟩) S0 ?rb12
          case yb12 => (intro V hSV; obtain ⟨d0, d1, d2, d3⟩ := hSV; go_simp; try with_reducible rfl)
          simp only [Act.put, List.setIfInBounds_toArray, List.set_cons_zero, List.set_cons_succ]
          refine wpAnyG_take [23, 24] (some 52) (i := 13) (v := ?vb13) rfl rfl (by kernel_rfl) (by kernel_rfl) (by kernel_rfl) (by kernel_rfl) (fun _ _ _ h => h) (Or.inl ⟨by rfl, ?yb13⟩) S0 ?rb13
          case yb13 => (intro V hSV; obtain ⟨d0, d1, d2, d3⟩ := hSV; go_simp; try with_reducible rfl)
          simp only [Act.put, List.setIfInBounds_toArray, List.set_cons_zero, List.set_cons_succ]
          refine wpAnyG_take [23, 24] (some 53) (i := 14) (v := ?vb14) rfl rfl (by kernel_rfl) (by kernel_rfl) (by kernel_rfl) (by kernel_rfl) (fun _ _ _ h => h) (Or.inl ⟨by rfl, ?yb14⟩) S0 ?rb14
          case yb14 => (intro V hSV; obtain ⟨d0, d1, d2, d3⟩ := hSV; go_simp; try with_reducible rfl)
          simp only [Act.put, List.setIfInBounds_toArray, List.set_cons_zero, List.set_cons_succ]
          refine wpAnyG_take [23, 24] (some 54) (i := 15) (v := ?vb15) rfl rfl (by kernel_rfl) (by kernel_rfl) (by kernel_rfl) (by kernel_rfl) (fun _ _ _ h => h) (Or.inl ⟨by rfl, ?yb15⟩) S0 ?rb15
          case yb15 => (intro V hSV; obtain ⟨d0, d1, d2, d3⟩ := hSV; go_simp; try with_reducible rfl)
          simp only [Act.put, List.setIfInBounds_toArray, List.set_cons_zero, List.set_cons_succ]
          refine wpAnyG_take [23, 24] (some 55) (i := 16) (v := ?vb16) rfl rfl (by kernel_rfl) (by kernel_rfl) (by kernel_rfl) (by kernel_rfl) (fun _ _ _ h => h) (Or.inl ⟨by rfl, ?yb16⟩) S0 ?rb16
          case yb16 => (intro V hSV; obtain ⟨d0, d1, d2, d3⟩ := hSV; go_simp; try with_reducible rfl)
          simp only [Act.put, List.setIfInBounds_toArray, List.set_cons_zero, List.set_cons_succ]
          refine wpAnyG_take [23, 24] (some 56) (i := 17) (v := ?vb17) rfl rfl (by kernel_rfl) (by kernel_rfl) (by kernel_rfl) (by kernel_rfl) (fun _ _ _ h => h) (Or.inl ⟨by rfl, ?yb17⟩) S0 ?rb17
          case yb17 => (intro V hSV; obtain ⟨d0, d1, d2, d3⟩ := hSV; go_simp; try with_reducible rfl)
          simp only [Act.put, List.setIfInBounds_toArray, List.set_cons_zero, List.set_cons_succ]
          refine wpAnyG_take [23, 24] (some 57) (i := 18) (v := ?vb18) rfl rfl (by kernel_rfl) (by kernel_rfl) (by kernel_rfl) (by kernel_rfl) (fun _ _ _ h => h) (Or.inl ⟨by rfl, ?yb18⟩) S0 ?rb18
          case yb18 => (intro V hSV; obtain ⟨d0, d1, d2, d3⟩ := hSV; go_simp; try with_reducible rfl)
          simp only [Act.put, List.setIfInBounds_toArray, List.set_cons_zero, List.set_cons_succ]
          refine wpAnyG_take [23, 24] (some 58) (i := 19) (v := ?vb19) rfl rfl (by kernel_rfl) (by kernel_rfl) (by kernel_rfl) (by kernel_rfl) (fun _ _ _ h => h) (Or.inl ⟨by rfl, ?yb19⟩) S0 ?rb19
          case yb19 => (intro V hSV; obtain ⟨d0, d1, d2, d3⟩ := hSV; go_simp; try with_reducible rfl)
          simp only [Act.put, List.setIfInBounds_toArray, List.set_cons_zero, List.set_cons_succ]
          refine wpAnyG_take [23, 24] (some 59) (i := 20) (v := ?vb20) rfl rfl (by kernel_rfl) (by kernel_rfl) (by kernel_rfl) (by kernel_rfl) (fun _ _ _ h => h) (Or.inl ⟨by rfl, ?yb20⟩) S0 ?rb20
          case yb20 => (intro V hSV; obtain ⟨d0, d1, d2, d3⟩ := hSV; go_simp; try with_reducible rfl)
          simp only [Act.put, List.setIfInBounds_toArray, List.set_cons_zero, List.set_cons_succ]
          refine wpAnyG_one (i := 21) (by kernel_rfl) rfl (fun K hK => ?_)
          go_simp
          refine hK.out _ _ (Or.inr ⟨S2.1, S2.2.1, S2.2.2, O2⟩) ?_
          clear hK K
          refine wpAnyG_one (i := 22) (by kernel_rfl) rfl (fun K hK => ?_)
          refine step_app_k (by rfl) _ _ 22 31 i0 (.agg #[.int .i64 0, .int .i64 0]) 2 16 (by rfl) Try.underlying22 ki hz0 hz1 hz2 rfl (by decide) (by decide) (w.heap.size + 3) _ v k (pc ((hs.map gh).take k)) [.int .i64 (md p 4096), .int .i64 (md q 65536)] wr.heap.size (by rfl) OW (by rfl) rfl NW ON hk6 hbs ?_
          intro v1' wb ow gw
          obtain ⟨ra, za, rfl, -, -, -⟩ := ow.rd (by decide)
          have G0 := F0.kept gw n0
          have G1 := F1.kept gw n1
          have G2 := F2.kept gw n2
          have GB := Below.grown FB gw (Nat.le_of_lt F0.lt) nl2
          have GS := Nat.le_trans hbs gw.size
          have C3 := G2.cell 2
          have Z3 := G2.free 2
          have S3 := SS wb G0 GB
          have S4 : (fun V : World => V.cell? ⟨w.heap.size, 2, none⟩ = some (.slice (some ⟨g, o, none⟩) n cap) ∧ V.cell? ⟨g, o + k * 2, none⟩ = some (.int .i64 p) ∧ V.cell? ⟨g, o + k * 2 + 1, none⟩ = some (.int .i64 q) ∧ V.cell? ⟨w.heap.size + 1 + 1, 2, none⟩ = some v) wb := ⟨S3.1, S3.2.1, S3.2.2, C3⟩
          refine hK.out _ _ (Or.inr S4) ?_
          clear hK K
          simp only [Act.put, List.setIfInBounds_toArray]
          refine wpAnyG_take [24] (some 62) (i := 23) (v := ?vb23) rfl rfl (by kernel_rfl) (by kernel_rfl) (by kernel_rfl) (by kernel_rfl) (fun _ _ _ h => h) (Or.inl ⟨by rfl, ?yb23⟩) S4 ?rb23
          case yb23 => (intro V hSV; obtain ⟨d0, d1, d2, d3⟩ := hSV; go_simp; try with_reducible rfl)
          simp only [Act.put]
          refine wpAnyG_one (i := 24) (by kernel_rfl) rfl (fun K hK => ?_)
          go_simp
          refine hK.out _ _ (Or.inl (by kernel_rfl)) ?_
          clear hK K
          refine wpAnyG_done (by kernel_rfl) ?_ _
          have X0 : Hid (Bk (wb.setCell ⟨w.heap.size + 1 + 1, 2, none⟩ (.slice ra (k + 1) za)) w.heap.size (pcc s false (.slice (some ⟨g, o, none⟩) n cap) x) 24) := G0.far hne2
          have X1 : Hid (Bk (wb.setCell ⟨w.heap.size + 1 + 1, 2, none⟩ (.slice ra (k + 1) za)) (w.heap.size + 1) (pcc 0 false (.slice none 0 0) ByteArray.empty) 24) := G1.far hne3
          have X2 : Hid (Bk (wb.setCell ⟨w.heap.size + 1 + 1, 2, none⟩ (.slice ra (k + 1) za)) (w.heap.size + 1 + 1) (pcc (md s 4096) false (.slice ra (k + 1) za) X) 24) := G2.two _
          have XB : Hid (Below w.heap.size w (wb.setCell ⟨w.heap.size + 1 + 1, 2, none⟩ (.slice ra (k + 1) za))) := GB.setCell hbs2 _
          have XS : Hid (w.heap.size + 3 ≤ (wb.setCell ⟨w.heap.size + 1 + 1, 2, none⟩ (.slice ra (k + 1) za)).heap.size) := by unfold Hid; simpa using GS
          have XO : Hid (OwnK 31 2 (wb.setCell ⟨w.heap.size + 1 + 1, 2, none⟩ (.slice ra (k + 1) za)) (w.heap.size + 3) (.slice ra (k + 1) za) (k + 1) (pc ((hs.map gh).take (k + 1)))) := by
            rw [HST.out] at ow
            exact ow.far (by omega)
          clear G0 G1 G2 GB GS C3 Z3 S3 S4 ow gw S1 S2 O1 O2 OW NW ON F0 F1 F2 FB n0 n1 n2 nl nl2 SS S0 HB H0 H1 H2 HO c2
          go_wp2
          go_roundw
          case rel => exact ⟨k + 1, .slice ra (k + 1) za, by omega, by simp [gL]; omega, by go_num, X0.out, X1.out, X2.out, XO.out, XB.out, XS.out⟩
          case measure => simp [RowKit.intOf]; omega
        · have e4 : ¬ (k : Int) < 1 := by omega
          have D0 := H2.out.cell 0
          have D1 := H2.out.cell 1
          have D2 := H2.out.cell 2
          have D3 := H2.out.cell 3
          have U2 := H2.out.free 2
          have Z0 := H1.out.free 0
          have Z1 := H1.out.free 1
          have Z2 := H1.out.free 2
          have Z3 := H1.out.free 3
          have Y0 := H1.out.cell 0
          have Y1 := H1.out.cell 1
          have Y2 := H1.out.cell 2
          have Y3 := H1.out.cell 3
          simp at D0 D1 D2 D3 Y0 Y1 Y2 Y3
          have hz : w.heap.size + 1 < wr.heap.size := by omega
          have hz3 : w.heap.size + 1 + 1 < wr.heap.size := by omega
          by_cases hn0 : n = 0
          · omega
          · obtain ⟨E1, E2, E3⟩ := (EN.out k hk hk12 (by first | omega | (right; simp [gL]; omega))).2 hn0
            have f3 : ¬ (k : Int) = 0 := by omega
            obtain ⟨ra, za, rfl, hcz, _, rr⟩ := HO.out.rd (by decide)
            clear rr
            go_wp2
            refine bodyPost_ret (v := pcv (md s 4096) false (.slice ra k za) X) (by simp [results, Try.results9, go_sem, Y0, Y1, Y2, Y3]) rfl ⟨ra, za, by first | rfl | rw [E2], by first | exact hcz | (rw [E2]; exact hcz), ?_, below_four HB.out (Nat.le_succ _) _ _ _ _, ?_⟩
            rotate_left
            · rintro y rfl
              have h9 := HO.out
              rcases h9.2 with ⟨h8, _⟩ | ⟨g9, c9, u9, h8, h7, h6, _⟩
              · simp at h8
              · simp only [Value.slice.injEq, Option.some.injEq] at h8
                rw [h8.1]
                exact ⟨by show w.heap.size ≤ g9; omega, u9, _, ((((show Bk _ g9 u9 _ from h6).far (by omega)).far (by omega)).far (by omega)).far (by omega)⟩
            have own : OwnK 31 2 _ (w.heap.size + 3) (.slice ra k za) k (pc ((hs.map gh).take k)) := (((HO.out.far (b := w.heap.size + 1) (j := 0) (x := .int .i64 (md s 4096)) (by omega)).far (b := w.heap.size + 1) (j := 1) (x := .bool false) (by omega)).far (b := w.heap.size + 1) (j := 2) (x := .slice ra k za) (by omega)).far (b := w.heap.size + 1) (j := 3) (x := .string X) (by omega)
            obtain ⟨a', c', e', _, _, rd⟩ := own.rd (by decide)
            simp only [Value.slice.injEq] at e'
            obtain ⟨rfl, _, _⟩ := e'
            rw [E1] at rd
            exact rd
      · have e1 : ¬ (k : Int) < (n : Int) := by omega
        have D0 := H2.out.cell 0
        have D1 := H2.out.cell 1
        have D2 := H2.out.cell 2
        have D3 := H2.out.cell 3
        have U2 := H2.out.free 2
        have Z0 := H1.out.free 0
        have Z1 := H1.out.free 1
        have Z2 := H1.out.free 2
        have Z3 := H1.out.free 3
        have Y0 := H1.out.cell 0
        have Y1 := H1.out.cell 1
        have Y2 := H1.out.cell 2
        have Y3 := H1.out.cell 3
        simp at D0 D1 D2 D3 Y0 Y1 Y2 Y3
        have hz : w.heap.size + 1 < wr.heap.size := by omega
        have hz3 : w.heap.size + 1 + 1 < wr.heap.size := by omega
        by_cases hn0 : n = 0
        · have hk0 : k = 0 := by omega
          have f3 : (k : Int) = 0 := by omega
          have eG : GH = [(1, 0)] := (EN.out k hk hk12 (by left; omega)).1 hn0
          subst eG
          obtain ⟨ra, za, rfl, _, _, rr⟩ := HO.out.rd (by decide)
          clear rr
          have hz4 : ¬ wr.heap.size = w.heap.size + 1 := by omega
          have hz5 : ¬ wr.heap.size = w.heap.size + 1 + 1 := by omega
          have hz6 : ¬ w.heap.size + 1 = w.heap.size + 1 + 1 := by omega
          have hz7 : ¬ w.heap.size + 1 + 1 = w.heap.size + 1 := by omega
          have eS : (wr.setCell ⟨w.heap.size + 1 + 1, 2, none⟩ (.slice (some ⟨wr.heap.size, 0, none⟩) 1 1)).heap.size = wr.heap.size := by simp
          have XB : Hid (Below w.heap.size w ((wr.setCell ⟨w.heap.size + 1 + 1, 2, none⟩ (.slice (some ⟨wr.heap.size, 0, none⟩) 1 1)).alloc (.cells #[.int .i64 1, .int .i64 0] 31))) := (HB.out.setCell (by simp; omega) _).alloc (by simp; omega) _
          have XN : Hid (Bk ((wr.setCell ⟨w.heap.size + 1 + 1, 2, none⟩ (.slice (some ⟨wr.heap.size, 0, none⟩) 1 1)).alloc (.cells #[.int .i64 1, .int .i64 0] 31)) wr.heap.size #[.int .i64 1, .int .i64 0] 31) := by
            have := Bk.new (wr.setCell ⟨w.heap.size + 1 + 1, 2, none⟩ (.slice (some ⟨wr.heap.size, 0, none⟩) 1 1)) #[.int .i64 1, .int .i64 0] 31
            rw [eS] at this
            exact this
          have X1 : Bk ((wr.setCell ⟨w.heap.size + 1 + 1, 2, none⟩ (.slice (some ⟨wr.heap.size, 0, none⟩) 1 1)).alloc (.cells #[.int .i64 1, .int .i64 0] 31)) (w.heap.size + 1) (pcc 0 false (.slice none 0 0) ByteArray.empty) 24 := (H1.out.far hz6).alloc _
          have X2 : Bk ((wr.setCell ⟨w.heap.size + 1 + 1, 2, none⟩ (.slice (some ⟨wr.heap.size, 0, none⟩) 1 1)).alloc (.cells #[.int .i64 1, .int .i64 0] 31)) (w.heap.size + 1 + 1) (pcc (md s 4096) false (.slice (some ⟨wr.heap.size, 0, none⟩) 1 1) X) 24 := (H2.out.two _).alloc _
          have hz8 : w.heap.size + 1 < ((wr.setCell ⟨w.heap.size + 1 + 1, 2, none⟩ (.slice (some ⟨wr.heap.size, 0, none⟩) 1 1)).alloc (.cells #[.int .i64 1, .int .i64 0] 31)).heap.size := X1.lt
          have hz9 : w.heap.size + 1 + 1 < ((wr.setCell ⟨w.heap.size + 1 + 1, 2, none⟩ (.slice (some ⟨wr.heap.size, 0, none⟩) 1 1)).alloc (.cells #[.int .i64 1, .int .i64 0] 31)).heap.size := X2.lt
          go_upto_region 8 with fail
          clear eS
          generalize (wr.setCell ⟨w.heap.size + 1 + 1, 2, none⟩ (.slice (some ⟨wr.heap.size, 0, none⟩) 1 1)).alloc (.cells #[.int .i64 1, .int .i64 0] 31) = wf at *
          clear Z0 Z1 Z2 Z3 Y0 Y1 Y2 Y3 D0 D1 D2 D3
          have D0 := X2.cell 0
          have D1 := X2.cell 1
          have D2 := X2.cell 2
          have D3 := X2.cell 3
          have Z0 := X1.free 0
          have Z1 := X1.free 1
          have Z2 := X1.free 2
          have Z3 := X1.free 3
          have Y0 := X1.cell 0
          have Y1 := X1.cell 1
          have Y2 := X1.cell 2
          have Y3 := X1.cell 3
          clear X1 X2
          simp at D0 D1 D2 D3 Y0 Y1 Y2 Y3
          go_wp2
          have nw := (((XN.out.far (k := w.heap.size + 1) (j := 0) (x := .int .i64 (md s 4096)) hz4).far (k := w.heap.size + 1) (j := 1) (x := .bool false) hz4).far (k := w.heap.size + 1) (j := 2) (x := .slice (some ⟨wr.heap.size, 0, none⟩) 1 1) hz4).far (k := w.heap.size + 1) (j := 3) (x := .string X) hz4
          refine bodyPost_ret (v := pcv (md s 4096) false (.slice (some ⟨wr.heap.size, 0, none⟩) 1 1) X) (by simp [results, Try.results9, go_sem, Y0, Y1, Y2, Y3]) rfl ⟨some ⟨wr.heap.size, 0, none⟩, 1, rfl, Nat.le_refl _, ?_, below_four XB.out (Nat.le_succ _) _ _ _ _, fun y hy => by have h9 := HB.out.size; cases hy; exact ⟨h9, _, _, nw⟩⟩
          intro j u hj
          refine ⟨wr.heap.size, 0, rfl, nw.lt, ?_⟩
          rw [Nat.zero_add, nw.cell]
          simpa [pc] using hj
        · obtain ⟨E1, E2, E3⟩ := (EN.out k hk hk12 (by first | omega | (right; simp [gL]; omega))).2 hn0
          have f3 : ¬ (k : Int) = 0 := by omega
          obtain ⟨ra, za, rfl, hcz, _, rr⟩ := HO.out.rd (by decide)
          clear rr
          go_wp2
          refine bodyPost_ret (v := pcv (md s 4096) false (.slice ra k za) X) (by simp [results, Try.results9, go_sem, Y0, Y1, Y2, Y3]) rfl ⟨ra, za, by first | rfl | rw [E2], by first | exact hcz | (rw [E2]; exact hcz), ?_, below_four HB.out (Nat.le_succ _) _ _ _ _, ?_⟩
          rotate_left
          · rintro y rfl
            have h9 := HO.out
            rcases h9.2 with ⟨h8, _⟩ | ⟨g9, c9, u9, h8, h7, h6, _⟩
            · simp at h8
            · simp only [Value.slice.injEq, Option.some.injEq] at h8
              rw [h8.1]
              exact ⟨by show w.heap.size ≤ g9; omega, u9, _, ((((show Bk _ g9 u9 _ from h6).far (by omega)).far (by omega)).far (by omega)).far (by omega)⟩
          have own : OwnK 31 2 _ (w.heap.size + 3) (.slice ra k za) k (pc ((hs.map gh).take k)) := (((HO.out.far (b := w.heap.size + 1) (j := 0) (x := .int .i64 (md s 4096)) (by omega)).far (b := w.heap.size + 1) (j := 1) (x := .bool false) (by omega)).far (b := w.heap.size + 1) (j := 2) (x := .slice ra k za) (by omega)).far (b := w.heap.size + 1) (j := 3) (x := .string X) (by omega)
          obtain ⟨a', c', e', _, _, rd⟩ := own.rd (by decide)
          simp only [Value.slice.injEq] at e'
          obtain ⟨rfl, _, _⟩ := e'
          rw [E1] at rd
          exact rd
theorem good_any (s : Int) (c : Bool) (a : Option Addr) (cap : Nat) (x : ByteArray) (hs : List (Int × Int)) (w : World) (hm : hs.length ≤ maxLen) (hx : x.size ≤ maxLen) (hr : Rd w a (pc hs)) :
    Calls Try.prog 9 #[pcv s c (.slice a hs.length cap) x] w (PcR w ⟨md s 4096, c, gH c hs, gx x⟩) := (good_new s c a cap x hs w hm hx hr).mono fun _ _ h => h.pcr
end Go.Proofs.Ytkigeakaedkjpaa
