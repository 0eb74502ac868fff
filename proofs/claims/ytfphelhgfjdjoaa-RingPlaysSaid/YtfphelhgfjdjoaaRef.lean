/-
  The document's ring (a list) in memory, and its calls.
-/
import Derived.Test.YtfphelhgfjdjoaaRel
import Derived.Laws.AppendOwnNone
import Derived.Lib.Hide
namespace Go.Proofs.Ytfphelhgfjdjoaa
open Go.RowKit

/-- The document's ring at c: its list lies in block g. -/
def RefAt (w : World) (c g : Nat) (s : RingSt) (lv : Int) : Prop :=
  RingOk s ∧ (s.laid = true → lv = s.lv) ∧ g < w.heap.size ∧
  ∃ a cap t, w.heap[c]? = some (.cells #[.int .i64 (min (max s.room 1) 4096), .slice a s.xs.length cap, .bool s.laid, .int .i64 lv, .int .u32 (s.i : Int), .int .u32 (s.o : Int)] t (0, 0)) ∧
    s.xs.length ≤ cap ∧ cap ≤ maxLen ∧ (a = none → cap = 0) ∧ Rd w a s.xs (fun x => x = g ∧ x ≠ c)

theorem RefAt.keep {w w' : World} {c g : Nat} {s : RingSt} {lv : Int} (h : RefAt w c g s lv) (hs : w.heap.size ≤ w'.heap.size) (h1 : w'.heap[c]? = w.heap[c]?) (h2 : w'.heap[g]? = w.heap[g]?) : RefAt w' c g s lv := by
  obtain ⟨ok, hl, hg, a, cap, t, ht, r1, r2, r3, r4⟩ := h
  exact ⟨ok, hl, by omega, a, cap, t, h1.trans ht, r1, r2, r3, r4.keep hs (fun x hx _ => by rw [hx.1]; exact h2)⟩
theorem RefAt.drewN {w : World} {c g : Nat} {s : RingSt} {lv : Int} (h : RefAt w c g s lv) (n : Nat) : RefAt (w.drewN n) c g s lv := h
theorem RefAt.lt {w : World} {c g : Nat} {s : RingSt} {lv : Int} (h : RefAt w c g s lv) : c < w.heap.size ∧ g < w.heap.size := by
  obtain ⟨_, _, hg, a, cap, t, ht, _⟩ := h
  exact ⟨lt_of_heap ht, hg⟩

/-- A step of the document's ring: its own block alone has turned. -/
def RStp (c g : Nat) (w w' : World) (s' : RingSt) : Prop := ∃ g' lv', RefAt w' c g' s' lv' ∧ Fr c c w w' ∧ (g' = g ∨ w.heap.size ≤ g')

section
variable {w : World} {c g : Nat} {s : RingSt} {lv : Int}

theorem RStp.ofSame (h : RefAt w c g s lv) : RStp c g w w s := ⟨g, lv, h, Fr.refl _ _ _, .inl rfl⟩
theorem RStp.ofDrew (h : RefAt w c g s lv) (n : Nat) : RStp c g w (w.drewN n) s := ⟨g, lv, h, (Fr.refl _ _ _).drewN n, .inl rfl⟩

theorem ref_push_laid (h : RefAt w c g s lv) (hla : s.laid = true) (v : Int) :
    Calls Try.prog 31 #[.pointer (some ⟨c, 0, none⟩), .int .i64 v] w fun e w' => e = .returned (.int .i64 13) ∧ w = w' := by
  obtain ⟨_, _, _, a, cap, t, ht, _⟩ := h
  have h2 : w.cell? ⟨c, 2, none⟩ = some (.bool true) := by rw [cell_of ht, hla]; rfl
  clear ht hla
  go_enter Try.func31, Try.ntmps31
  go_wp2
  go_ret
  exact ⟨rfl, rfl⟩

theorem ref_push_full (h : RefAt w c g s lv) (hla : s.laid = false) (hf : s.free = 0) (v : Int) :
    Calls Try.prog 31 #[.pointer (some ⟨c, 0, none⟩), .int .i64 v] w fun e w' => e = .returned (.int .i64 7) ∧ ∃ n, w' = w.drewN n := by
  obtain ⟨_, _, _, a, cap, t, ht, _⟩ := h
  have h2 : w.cell? ⟨c, 2, none⟩ = some (.bool false) := by rw [cell_of ht, hla]; rfl
  have h0 : w.cell? ⟨c, 0, none⟩ = some (.int .i64 (min (max s.room 1) 4096)) := by rw [cell_of ht]; rfl
  have h1 : w.cell? ⟨c, 1, none⟩ = some (.slice a s.xs.length cap) := by rw [cell_of ht]; rfl
  rw [RingSt.free, hla] at hf
  simp only [one] at hf
  simp at hf
  have hge : min (max s.room 1) 4096 ≤ (s.xs.length : Int) := by omega
  clear ht hla hf
  generalize min (max s.room 1) 4096 = sz at *
  generalize s.xs.length = n at *
  go_enter Try.func31, Try.ntmps31
  go_wp2
  go_quiet (fail)
  go_wp2
  go_ret
  exact ⟨rfl, _, rfl⟩

theorem ints_of_heap {w w' : World} {v : Value} {n : Nat} {xs : List Value} {B : Nat} {row : Option Nat} (h : w.ownsRow B 3 1 v n xs) (hk : ∀ k, v.ownBlock = some k → w'.heap[k]? = w.heap[k]?) : w'.ownsRow B 3 1 v n xs := by
  obtain ⟨h1, h2⟩ := h
  refine ⟨h1, ?_⟩
  rcases h2 with h2 | ⟨g, cap, cur, hv, hg, hh, r⟩
  · exact Or.inl h2
  · exact Or.inr ⟨g, cap, cur, hv, hg, (hk g (by rw [hv]; rfl)).trans hh, r⟩

theorem at_ref_pushed (h : RefAt w c g s lv) (hla : s.laid = false) (hlt : (s.xs.length : Int) < min (max s.room 1) 4096) (v : Int) {w' : World} (hb : Below w.heap.size w w') {a : Option Addr} {cap : Nat}
    (h1 : s.xs.length + 1 ≤ cap) (h2 : cap ≤ maxLen) (g' : Nat) (hg : w.heap.size ≤ g') (hg2 : g' < w'.heap.size) (ha : a ≠ none) (hr : Rd w' a (s.xs ++ [v]) (fun x => x = g')) :
    RStp c g w ((w'.setCell ⟨c, 1, none⟩ (.slice a (s.xs.length + 1) cap)).setCell ⟨c, 4, none⟩ (.int .u32 (((s.i : Int) + 1) % 4294967296))) (s.lay v).published := by
  obtain ⟨ok, hl, hgw, a0, cap0, t, ht, r1, r2, r3, r4⟩ := h
  obtain ⟨o1, o2, o3, o4⟩ := ok
  have hcw := lt_of_heap ht
  refine ⟨g', lv, ⟨⟨?_, o2, ?_, ?_⟩, (fun x => by cases x), by simpa using hg2, a, cap, t, ?_, ?_, h2, fun x => absurd x ha, ?_⟩, ?_, .inr hg⟩
  · simp [RingSt.published, RingSt.lay]; omega
  · simp [RingSt.published, RingSt.lay]; omega
  · simp [RingSt.published, RingSt.lay, one]; omega
  · rw [heap_set (c := #[.int .i64 (min (max s.room 1) 4096), .slice a (s.xs.length + 1) cap, .bool s.laid, .int .i64 lv, .int .u32 (s.i : Int), .int .u32 (s.o : Int)]) (t := t) (fr := (0, 0))]
    · simp [RingSt.published, RingSt.lay, hla]
    · rw [heap_set (c := #[.int .i64 (min (max s.room 1) 4096), .slice a0 s.xs.length cap0, .bool s.laid, .int .i64 lv, .int .u32 (s.i : Int), .int .u32 (s.o : Int)]) (t := t) (fr := (0, 0)) ((hb.block c hcw).trans ht)]
      simp
  · simp [RingSt.published, RingSt.lay]; exact h1
  · exact (hr.keep (by simp) (fun x hx _ => by rw [heap_set_ne _ (by show x ≠ c; omega), heap_set_ne _ (by show x ≠ c; omega)])).mono fun x _ hx => ⟨hx, by omega⟩
  · exact ((Fr.ofBelow hb (Nat.le_refl _)).set0 _ _).set0 _ _

theorem rd_of_owns {w : World} {B n : Nat} {v : Value} {l : List Int} (h : w.ownsRow B 3 1 v n (l.map (Value.int .i64))) (hn : n = l.length) (hp : 0 < n) :
    ∃ g cap, v = .slice (some ⟨g, 0, none⟩) n cap ∧ B ≤ g ∧ g < w.heap.size ∧ n ≤ cap ∧ cap ≤ maxLen ∧ Rd w (some ⟨g, 0, none⟩) l (fun x => x = g) := by
  subst hn
  obtain ⟨h1, h2⟩ := h
  rcases h2 with ⟨_, h2⟩ | ⟨g, cap, cur, rfl, hg, hh, hc1, hc2, hc3, hc4⟩
  · omega
  · refine ⟨g, cap, rfl, hg, lt_of_heap hh, hc1, hc2, fun j hj => ⟨g, 0, rfl, rfl, lt_of_heap hh, ?_⟩⟩
    rw [Nat.zero_add, cell_of hh]
    have : cur[j]? = (List.take (l.length * 1) cur.toList)[j]? := by rw [List.getElem?_take_of_lt (by omega)]; simp
    rw [this, hc4]
    simp [hj]

set_option maxHeartbeats 1000000 in
theorem ref_push_ok (h : RefAt w c g s lv) (hla : s.laid = false) (hf : ¬ s.free = 0) (v : Int) :
    Calls Try.prog 31 #[.pointer (some ⟨c, 0, none⟩), .int .i64 v] w fun e w' => e = .returned (.int .i64 0) ∧ RStp c g w w' (s.lay v).published := by
  obtain ⟨i0, hi, hz0, hz1, hz2⟩ := info_parts Try.info3
  have HH : Hid (RefAt w c g s lv) := h
  have hlt : (s.xs.length : Int) < min (max s.room 1) 4096 := by
    have := h.1.hcap
    rw [RingSt.free] at hf
    rw [hla] at this hf
    simp only [one] at this hf
    simp at this hf
    omega
  obtain ⟨_, _, _, a, cap, t, ht, r1, r2, r3, r4⟩ := h
  have h2 : w.cell? ⟨c, 2, none⟩ = some (.bool false) := by rw [cell_of ht, hla]; rfl
  have h0 : w.cell? ⟨c, 0, none⟩ = some (.int .i64 (min (max s.room 1) 4096)) := by rw [cell_of ht]; rfl
  have h1 : w.cell? ⟨c, 1, none⟩ = some (.slice a s.xs.length cap) := by rw [cell_of ht]; rfl
  have h4 : w.cell? ⟨c, 4, none⟩ = some (.int .u32 s.i) := by rw [cell_of ht]; rfl
  have f1 := frozen_of ht 1
  have f4 := frozen_of ht 4
  have hn4 : s.xs.length < 4096 := by omega
  obtain ⟨n, hn⟩ : ∃ n, n = s.xs.length := ⟨_, rfl⟩
  rw [← hn] at h1 hn4
  have HN : Hid (n = s.xs.length) := hn
  have HLT : Hid ((s.xs.length : Int) < min (max s.room 1) 4096) := hlt
  have HLA : Hid (s.laid = false) := hla
  have hlt2 : (n : Int) < min (max s.room 1) 4096 := by omega
  have hcw := lt_of_heap ht
  have HR4 := Lib.hid r4
  clear ht hla hf hn hlt r1 r2 r4
  obtain ⟨sz, hsz⟩ : ∃ sz, sz = min (max s.room 1) 4096 := ⟨_, rfl⟩
  rw [← hsz] at h0 hlt2
  clear hsz
  have hnlt : ¬ sz ≤ (n : Int) := by omega
  cases a with
  | none =>
    obtain rfl := r3 rfl
    have hn0 : n = 0 := by
      rcases Nat.eq_zero_or_pos n with e | e
      · exact e
      · obtain ⟨_, _, e1, _⟩ := HR4.out 0 (by have := HN.out; omega)
        cases e1
    subst hn0
    have hx0 : s.xs = [] := List.length_eq_zero_iff.1 HN.out.symm
    have HX0 : Hid (s.xs = []) := hx0
    clear hx0 r3
    obtain ⟨B, hB⟩ : ∃ B, B = w.heap.size := ⟨_, rfl⟩
    have HB : Hid (B = w.heap.size) := hB
    clear hB
    go_enter Try.func31, Try.ntmps31
    go_wp2
    go_quiet (fail)
    go_wp2_with (first
      | (at_builtin; refine wpList_append_own_none rfl (.tmp 20) (.tmp 24) 31 rfl B 3 i0 1 Try.underlying31 hi _ _ _ rfl (World.ownsRow_nil _ _ _ _) rfl ?_)
      | (at_builtin; refine wpList_append_own _ rfl (.tmp 27) (.tmp 29) 31 rfl B 3 i0 (.int .i64 0) 1 8 Try.underlying31 hi hz0 hz1 hz2 rfl (by decide) _ _ _ rfl (World.ownsRow_nil _ _ _ _) ⟨w.heap.size, 0, none⟩ 1 1 [.int .i64 v] rfl rfl ?c1 ?c2 ?c3 ?c4 ?c5 ?_))
    case c1 =>
      intro j u hj
      match j, hj with
      | 0, hj => simp at hj; subst hj; exact (World.cell?_alloc_at _ _ _ _ rfl).trans rfl
    case c2 => intro u hu; simp at hu; subst hu; rfl
    case c3 => unfold maxLen; omega
    case c4 => omega
    case c5 => have := HB.out; simp; omega
    · intro v2 w2 hown2 hg2 _
      have z2 := hg2.size
      have hcB : c < B := by have := HB.out; omega
      have e0 : w2.heap[c]? = w.heap[c]? := by
        rw [hg2.block c (by simp; omega) (by simp [Value.ownBlock]), Below.heap_alloc _ _ _ (by simp; omega)]; rfl
      have x1' : w2.cell? ⟨c, 1, none⟩ = some (.slice none 0 0) := (World.cell?_of_block e0).trans h1
      have x4' : w2.cell? ⟨c, 4, none⟩ = some (.int .u32 s.i) := (World.cell?_of_block e0).trans h4
      have y1' : w2.frozen? ⟨c, 1, none⟩ = false := (World.frozen?_of_block e0).trans f1
      have y4' : w2.frozen? ⟨c, 4, none⟩ = false := (World.frozen?_of_block e0).trans f4
      have hbel : Below B w w2 := Below.grown ((below_drewN (Below.refl _ _) _).alloc (by have := HB.out; simp; omega) _) hg2 (by have := HB.out; simp; omega) (fun q hq => by simp [Value.ownBlock] at hq)
      have hfin : w2.ownsRow B 3 1 v2 (0 + 1) ((s.xs ++ [v]).map (Value.int .i64)) := by
        rw [HX0.out]; simpa using hown2
      obtain ⟨g', cap', rfl, q1, q2, q3, q4, q5⟩ := rd_of_owns hfin (by rw [HX0.out]; rfl) (by omega)
      have hRS := at_ref_pushed HH.out HLA.out HLT.out v (w' := w2) (by rw [← HB.out]; exact hbel) (a := some ⟨g', 0, none⟩) (cap := cap') (by rw [← HN.out]; exact q3) q4 g' (by rw [← HB.out]; exact q1) q2 (by simp) q5
      rw [← HN.out] at hRS
      clear hown2 hg2 hbel hfin q5 h1 h4 f1 f4
      go_wp2
      go_ret
      exact ⟨rfl, hRS⟩
  | some ad =>
    have hnews : ∀ j u, (s.xs.map (Value.int .i64))[j]? = some u → w.cell? (ad.add j) = some u := fun j u hj => by
      simp at hj
      obtain ⟨y, hy, rfl⟩ := hj
      have hjl : j < s.xs.length := (List.getElem?_eq_some_iff.1 hy).1
      obtain ⟨g1, off, e1, _, _, e2⟩ := HR4.out j hjl
      simp only [Option.some.injEq] at e1
      rw [e1, WideShapes.add_plain, e2]
      simp [List.getD, hy]
    have HNW := Lib.hid hnews
    have HM1 : Hid (∀ u ∈ s.xs.map (Value.int .i64), u.oneCell' = true) := fun u hu => by
      simp at hu
      obtain ⟨y, _, rfl⟩ := hu
      rfl
    clear hnews r3
    obtain ⟨nw, hnw⟩ : ∃ nw, nw = s.xs.map (Value.int .i64) := ⟨_, rfl⟩
    rw [← hnw] at HNW HM1
    have HNWL : Hid (nw.length = n * 1) := by show _ = _; rw [hnw, List.length_map, HN.out]; omega
    have HNWE : Hid (nw = s.xs.map (Value.int .i64)) := hnw
    clear hnw
    obtain ⟨B, hB⟩ : ∃ B, B = w.heap.size := ⟨_, rfl⟩
    have HB : Hid (B = w.heap.size) := hB
    clear hB
    go_enter Try.func31, Try.ntmps31
    go_wp2
    go_quiet (fail)
    go_wp2_with (at_builtin; refine wpList_append_own _ rfl (.tmp 20) (.tmp 24) 31 rfl B 3 i0 (.int .i64 0) 1 8 Try.underlying31 hi hz0 hz1 hz2 rfl (by decide) _ _ _ rfl (World.ownsRow_nil _ _ _ _) ad n cap nw rfl HNWL.out HNW.out HM1.out ?e1 ?e2 ?e3 ?_)
    case e1 => unfold maxLen; omega
    case e2 => omega
    case e3 => have := HB.out; simp; omega
    · intro v1 w1 hown1 hg1 _
      have hz1' := hg1.size
      have x1 : w1.cell? ⟨c, 1, none⟩ = some (.slice (some ad) n cap) := (World.cell?_of_block (hg1.block c hcw (by simp [Value.ownBlock]))).trans h1
      have x4 : w1.cell? ⟨c, 4, none⟩ = some (.int .u32 s.i) := (World.cell?_of_block (hg1.block c hcw (by simp [Value.ownBlock]))).trans h4
      have y1 : w1.frozen? ⟨c, 1, none⟩ = false := (World.frozen?_of_block (hg1.block c hcw (by simp [Value.ownBlock]))).trans f1
      have y4 : w1.frozen? ⟨c, 4, none⟩ = false := (World.frozen?_of_block (hg1.block c hcw (by simp [Value.ownBlock]))).trans f4
      have hown1' : w1.ownsRow B 3 1 v1 n nw := by simpa using hown1
      have HG1 : Hid (Below B w w1) := Below.grown (below_drewN (Below.refl _ _) _) hg1 (by have := HB.out; simp; omega) (fun q hq => by simp [Value.ownBlock] at hq)
      have hzB : B ≤ w1.heap.size := by have := HG1.out.size; have := HB.out; omega
      clear hown1 hg1
      go_wp2_with (at_builtin; refine wpList_append_own _ rfl (.tmp 27) (.tmp 29) 31 rfl B 3 i0 (.int .i64 0) 1 8 Try.underlying31 hi hz0 hz1 hz2 rfl (by decide) _ _ _ rfl (hown1'.alloc _) ⟨w1.heap.size, 0, none⟩ 1 1 [.int .i64 v] rfl rfl ?c1 ?c2 ?c3 ?c4 ?c5 ?_)
      case c1 =>
        intro j u hj
        match j, hj with
        | 0, hj => simp at hj; subst hj; exact (World.cell?_alloc_at _ _ _ _ rfl).trans rfl
      case c2 => intro u hu; simp at hu; subst hu; rfl
      case c3 => unfold maxLen; omega
      case c4 => omega
      case c5 => simp; omega
      · intro v2 w2 hown2 hg2 _
        have ho := hown1'.lt
        have z2 := hg2.size
        have hne : ∀ q, v1.ownBlock = some q → B ≤ q := fun q hq => (ho q hq).1
        have hcB : c < B := by have := HB.out; omega
        have e0 : w2.heap[c]? = w1.heap[c]? := by
          rw [hg2.block c (by simp; omega) (fun e => by have := hne c e.symm; omega), Below.heap_alloc _ _ _ (by omega)]
        have x1' : w2.cell? ⟨c, 1, none⟩ = some (.slice (some ad) n cap) := (World.cell?_of_block e0).trans x1
        have x4' : w2.cell? ⟨c, 4, none⟩ = some (.int .u32 s.i) := (World.cell?_of_block e0).trans x4
        have y1' : w2.frozen? ⟨c, 1, none⟩ = false := (World.frozen?_of_block e0).trans y1
        have y4' : w2.frozen? ⟨c, 4, none⟩ = false := (World.frozen?_of_block e0).trans y4
        have hbel : Below B w w2 := Below.grown (HG1.out.alloc hzB _) hg2 (by simp; omega) hne
        have hfin : w2.ownsRow B 3 1 v2 (n + 1) ((s.xs ++ [v]).map (Value.int .i64)) := by
          rw [List.map_append, ← HNWE.out]; simpa using hown2
        obtain ⟨g', cap', rfl, q1, q2, q3, q4, q5⟩ := rd_of_owns hfin (by rw [List.length_append, ← HN.out]; rfl) (by omega)
        have hRS := at_ref_pushed HH.out HLA.out HLT.out v (w' := w2) (by rw [← HB.out]; exact hbel) (a := some ⟨g', 0, none⟩) (cap := cap') (by rw [← HN.out]; exact q3) q4 g' (by rw [← HB.out]; exact q1) q2 (by simp) q5
        rw [← HN.out] at hRS
        clear hown1' hown2 hg2 ho hne hbel hfin q5 x1 x4 y1 y4
        go_wp2
        go_ret
        exact ⟨rfl, hRS⟩

end
end Go.Proofs.Ytfphelhgfjdjoaa
