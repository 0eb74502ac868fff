/-
  widen over a ring.
-/
import Derived.Test.YtpmkpjnhdehnhaaRpAll
namespace Go.Proofs.Ytpmkpjnhdehnhaa.RP
open Go.RowKit

/-- What a slice value of the call's own reads as. -/
def Src (w : World) (B : Nat) (a : Option Addr) (l : List Pk) : Prop :=
  ∀ j, j < l.length → ∃ g, a = some ⟨g, 0, none⟩ ∧ B ≤ g ∧ g < w.heap.size ∧ w.cell? ⟨g, j * 4, none⟩ = some (.int .i64 (l.getD j zc).s) ∧ w.cell? ⟨g, j * 4 + 1, none⟩ = some (.int .i64 (l.getD j zc).d) ∧ w.cell? ⟨g, j * 4 + 2, none⟩ = some (.int .i64 (l.getD j zc).q) ∧ w.cell? ⟨g, j * 4 + 3, none⟩ = some (.string (l.getD j zc).x)

theorem ints_form {w : World} {B : Nat} {v : Value} {l : List Pk} (h : Ints w B v l) : ∃ a cap, v = .slice a l.length cap ∧ Src w B a l := by
  obtain ⟨h1, h2⟩ := h
  rcases h2 with ⟨rfl, h2⟩ | ⟨g, cap, cur, rfl, hg, hh, hc1, hc2, hc3, hc4⟩
  · refine ⟨none, 0, by rw [h2], fun j hj => by omega⟩
  · refine ⟨_, cap, rfl, fun j hj => ⟨g, rfl, hg, lt_of_heap hh, ?_⟩⟩
    have hg0 : l[j]? = some (l.getD j zc) := by simp [hj]
    obtain ⟨c0, c1, c2, c3⟩ := cc_at l j _ hg0
    have ht : ∀ k, k < l.length * 4 → cur[k]? = (l.flatMap pk4)[k]? := fun k hk => by
      have : cur[k]? = (List.take (l.length * 4) cur.toList)[k]? := by rw [List.getElem?_take_of_lt hk]; simp
      rw [this, hc4]
    rw [cell_of hh, cell_of hh, cell_of hh, cell_of hh, ht _ (by omega), ht _ (by omega), ht _ (by omega), ht _ (by omega)]
    exact ⟨c0, c1, c2, c3⟩

theorem Src.keep {w w' : World} {B : Nat} {a : Option Addr} {l : List Pk} (h : Src w B a l) (hs : w.heap.size ≤ w'.heap.size) (hk : ∀ g, B ≤ g → g < w.heap.size → w'.heap[g]? = w.heap[g]?) : Src w' B a l := fun j hj => by
  obtain ⟨g, h1, h2, h3, h4, h5, h6, h7⟩ := h j hj
  exact ⟨g, h1, h2, by omega, by rw [World.cell?_of_block (hk g h2 h3)]; exact h4, by rw [World.cell?_of_block (hk g h2 h3)]; exact h5, by rw [World.cell?_of_block (hk g h2 h3)]; exact h6, by rw [World.cell?_of_block (hk g h2 h3)]; exact h7⟩

section
variable {w : World} {b pb m : Nat} {s : RingSt}

theorem RingAt.cell1 (h : RingAt w b pb m s) : ∃ a0, w.cell? ⟨b, 1, none⟩ = some (.slice a0 m m) := by
  obtain ⟨_, ⟨t, ht⟩, _⟩ := h
  rcases Nat.eq_zero_or_pos m with rfl | hm
  · exact ⟨none, by rw [cell_of ht]; rfl⟩
  · exact ⟨_, by rw [cell_of ht, pval_pos hm]; rfl⟩

theorem widen_no (h : RingAt w b pb m s) (hl : s.xs.length < m) :
    Calls Try.prog 43 #[.pointer (some ⟨b, 0, none⟩)] w fun e w' => e = .returned (.tuple #[]) ∧ ∃ n, w' = w.drewN n := by
  obtain ⟨a0, h1⟩ := h.cell1
  have L := fun n => ring_len (h.drewN n)
  obtain ⟨n, hn⟩ : ∃ n : Nat, n = s.xs.length := ⟨_, rfl⟩
  rw [← hn] at L hl
  clear hn h
  go_enter Try.func43, Try.ntmps43
  go_wp2
  go_quiet ((go_at_call 37; exact Calls.quiet_of (L _)))
  go_wp2
  exact bodyPost_ret (results_none rfl _ _ _) rfl ⟨rfl, _, rfl⟩

/-- The loop's relation: the new places, filled up to k. -/
def Filling (w0 : World) (b pb nb M : Nat) (t : TypeId) (s : RingSt) (a : Option Addr) (k : Nat) (wr : World) : Prop :=
  wr.heap[b]? = some (.cells #[.int .i64 s.room, .slice (some ⟨nb, 0, none⟩) M M, .int .u32 (s.i : Int), .int .u32 (s.o : Int), .bool false] t (0, 0)) ∧
  (∃ qs : List Pk, wr.heap[nb]? = some (.cells ⟨qs.flatMap pk4⟩ 33 (0, 0)) ∧ qs.length = M ∧ ∀ j, j < k → qs[(s.o + j) % M]? = s.xs[j]?) ∧
  Fr b pb w0 wr ∧ Src wr w0.heap.size a s.xs

theorem Filling.drewN {w0 wr : World} {b pb nb M : Nat} {t : TypeId} {s : RingSt} {a : Option Addr} {k : Nat} (h : Filling w0 b pb nb M t s a k wr) (n : Nat) : Filling w0 b pb nb M t s a k (wr.drewN n) := ⟨h.1, h.2.1, h.2.2.1.drewN n, h.2.2.2⟩

theorem Filling.alloc {w0 wr : World} {b pb nb M : Nat} {t : TypeId} {s : RingSt} {a : Option Addr} {k : Nat} (h : Filling w0 b pb nb M t s a k wr) (o : Obj) : Filling w0 b pb nb M t s a k (wr.alloc o) := by
  obtain ⟨h1, ⟨qs, h2, h3⟩, h4, h5⟩ := h
  refine ⟨?_, ⟨qs, ?_, h3⟩, h4.alloc o, h5.keep (by simp) fun g _ hg => Below.heap_alloc _ _ _ hg⟩
  · rw [Below.heap_alloc _ _ _ (lt_of_heap h1)]; exact h1
  · rw [Below.heap_alloc _ _ _ (lt_of_heap h2)]; exact h2
theorem made_zeros (n : Nat) : (madeCells #[Value.int .i64 0, Value.int .i64 0, Value.int .i64 0, Value.string ⟨#[]⟩] (n * 4)).toList = (List.replicate n zc).flatMap pk4 := by
  apply List.ext_getElem?
  intro j
  by_cases hj : j < n * 4
  · have e : j = j / 4 * 4 ∨ j = j / 4 * 4 + 1 ∨ j = j / 4 * 4 + 2 ∨ j = j / 4 * 4 + 3 := by omega
    have hg : (List.replicate n zc)[j / 4]? = some zc := by rw [List.getElem?_replicate, if_pos (by omega)]
    obtain ⟨c0, c1, c2, c3⟩ := cc_at _ _ _ hg
    have hm : (madeCells #[Value.int .i64 0, Value.int .i64 0, Value.int .i64 0, Value.string ⟨#[]⟩] (n * 4)).toList[j]? = some (if j % 4 = 3 then .string ⟨#[]⟩ else .int .i64 0) := by
      unfold madeCells
      rcases (by omega : j % 4 = 0 ∨ j % 4 = 1 ∨ j % 4 = 2 ∨ j % 4 = 3) with h | h | h | h <;> simp [hj, h]
    rw [hm]
    rcases e with e | e | e | e
    · rw [e, c0, if_neg (by omega)]; rfl
    · rw [e, c1, if_neg (by omega)]; rfl
    · rw [e, c2, if_neg (by omega)]; rfl
    · rw [e, c3, if_pos (by omega)]; rfl
  · rw [List.getElem?_eq_none (by simp [size_madeCells]; omega), List.getElem?_eq_none (by rw [cc_len]; simp; omega)]

theorem fill_start (h : RingAt w b pb m s) (hla : s.laid = false) {w1 w2 : World} (hbel : Below w.heap.size w w1) {a : Option Addr} (hS : Src w1 w.heap.size a s.xs) {M : Nat}
    (hown : w2.ownsRow w.heap.size 33 4 (.slice (some ⟨w1.heap.size, 0, none⟩) M M) M (madeCells #[Value.int .i64 0, Value.int .i64 0, Value.int .i64 0, Value.string ⟨#[]⟩] (M * 4)).toList) (hg : w1.grownBy w2 none) :
    ∃ t, Filling w b pb w1.heap.size M t s a 0 (w2.setCell ⟨b, 1, none⟩ (.slice (some ⟨w1.heap.size, 0, none⟩) M M)) := by
  obtain ⟨ok, ⟨t, ht⟩, h3⟩ := h
  have hb := lt_of_heap ht
  have s1 := hbel.size
  have s2 := hg.size
  have e1 : w1.heap[b]? = w.heap[b]? := hbel.block b hb
  have e2 : w2.heap[b]? = w1.heap[b]? := hg.block b (by omega) (by simp)
  refine ⟨t, ?_, ?_, ?_, ?_⟩
  · rw [heap_set (c := #[.int .i64 s.room, pval pb m, .int .u32 (s.i : Int), .int .u32 (s.o : Int), .bool s.laid]) (t := t) (fr := (0, 0)) (by rw [e2, e1]; exact ht)]
    simp [hla]
  · obtain ⟨_, h2⟩ := hown
    rcases h2 with ⟨h2, _⟩ | ⟨g, cap, cur, h4, hg', hh, hc1, hc2, hc3, hc4⟩
    · cases h2
    · simp only [Value.slice.injEq, Option.some.injEq, Addr.mk.injEq, and_true, true_and] at h4
      obtain ⟨rfl, rfl⟩ := h4
      refine ⟨List.replicate M zc, ?_, by simp, fun j hj => absurd hj (Nat.not_lt_zero j)⟩
      rw [heap_set_ne _ (by show w1.heap.size ≠ b; omega), hh]
      rw [List.take_of_length_le (by simp [hc3]), made_zeros] at hc4
      have : cur = ⟨(List.replicate M zc).flatMap pk4⟩ := by
        apply Array.toList_inj.1; rw [hc4]
      rw [this]
  · refine Fr.set0 ⟨hg.os.trans hbel.os, hg.tape.trans hbel.tape, hg.output.trans hbel.output, by omega, fun k hk _ _ => ?_⟩ _ _
    rw [hg.block k (by omega) (by simp), hbel.block k hk]
  · refine hS.keep (by simp; omega) fun g g1 g2 => ?_
    rw [heap_set_ne _ (by show g ≠ b; omega), hg.block g (by omega) (by simp)]

theorem fill_step {w0 wr : World} {nb M : Nat} {t : TypeId} {a : Option Addr} {k : Nat} (h : Filling w0 b pb nb M t s a k wr) (hk : k < s.xs.length) (hM : s.xs.length < M) (hnb : w0.heap.size ≤ nb)
    (hb : b < w0.heap.size) (hg : ∀ g, a = some ⟨g, 0, none⟩ → g ≠ nb) :
    Filling w0 b pb nb M t s a (k + 1) ((((wr.setCell ⟨nb, (s.o + k) % M * 4, none⟩ (.int .i64 (s.xs.getD k zc).s)).setCell ⟨nb, (s.o + k) % M * 4 + 1, none⟩ (.int .i64 (s.xs.getD k zc).d)).setCell ⟨nb, (s.o + k) % M * 4 + 2, none⟩ (.int .i64 (s.xs.getD k zc).q)).setCell ⟨nb, (s.o + k) % M * 4 + 3, none⟩ (.string (s.xs.getD k zc).x)) := by
  obtain ⟨h1, ⟨qs, h2, h3, h4⟩, h5, h6⟩ := h
  refine ⟨?_, ⟨qs.set ((s.o + k) % M) (s.xs.getD k zc), ?_, by simpa using h3, ?_⟩, ?_, ?_⟩
  · exact (heap_set2_ne _ _ (by omega)).trans h1
  · exact heap_set2 h2 _ _
  · intro j hj
    rcases Nat.lt_or_ge j k with c | c
    · rw [List.getElem?_set_ne]
      · exact h4 j c
      · intro d
        have := dist (m := M) (o := s.o) (j := k) (j' := j) (by omega) (by omega) d
        omega
    · obtain rfl : j = k := by omega
      rw [List.getElem?_set_self (by rw [h3]; exact Nat.mod_lt _ (by omega))]
      simp [hk]
  · exact (((h5.setCell (Or.inr (Or.inr hnb)) _).setCell (Or.inr (Or.inr hnb)) _).setCell (Or.inr (Or.inr hnb)) _).setCell (Or.inr (Or.inr hnb)) _
  · intro j hj
    obtain ⟨g, g1, g2, g3, g4, g5, g6, g7⟩ := h6 j hj
    refine ⟨g, g1, g2, by simpa using g3, ?_, ?_, ?_, ?_⟩
    · rw [World.cell?_of_block (heap_set2_ne _ _ (hg g g1))]
      exact g4
    · rw [World.cell?_of_block (heap_set2_ne _ _ (hg g g1))]
      exact g5
    · rw [World.cell?_of_block (heap_set2_ne _ _ (hg g g1))]
      exact g6
    · rw [World.cell?_of_block (heap_set2_ne _ _ (hg g g1))]
      exact g7

theorem fill_end {w0 wr : World} {nb M : Nat} {t : TypeId} {a : Option Addr} (h : Filling w0 b pb nb M t s a s.xs.length wr) (ok : RingOk s) (hla : s.laid = false) (hM : s.xs.length < M) (hM1 : ∃ k, M = 2 ^ k) (hM2 : M ≤ 4096) (hnb : b < nb) :
    RingAt wr b nb M s := by
  obtain ⟨h1, ⟨qs, h2, h3, h4⟩, h5, h6⟩ := h
  refine ⟨ok, ⟨t, ?_⟩, Or.inr ⟨qs, hM1, hM2, by omega, h2, h3, by rw [hla]; simp [one]; omega, h4, ?_⟩⟩
  · rw [pval_pos (by omega), hla]; exact h1
  · intro c; rw [hla] at c; cases c

theorem Filling.src {w0 wr : World} {nb M : Nat} {t : TypeId} {a : Option Addr} {k : Nat} (h : Filling w0 b pb nb M t s a k wr) : Src wr w0.heap.size a s.xs := h.2.2.2

set_option maxHeartbeats 16000000 in
theorem widen_yes (h : RingAt w b pb m s) (hl : m ≤ s.xs.length) (hla : s.laid = false) (hlt : (s.xs.length : Int) < min (max s.room 1) 4096) :
    Calls Try.prog 43 #[.pointer (some ⟨b, 0, none⟩)] w fun e w' => e = .returned (.tuple #[]) ∧ ∃ nb M, RingAt w' b nb M s ∧ s.xs.length < M ∧ w.heap.size ≤ nb ∧ Fr b pb w w' := by
  obtain ⟨i0, hi, hz0, hz1, hz2⟩ := info_parts Try.info33
  obtain ⟨a0, h1⟩ := h.cell1
  have hbb := h.lt
  have L := fun n => ring_len (h.drewN n)
  have A := fun n => ring_all (h.drewN n)
  have f1 : w.frozen? ⟨b, 1, none⟩ = false := by obtain ⟨_, ⟨t, ht⟩, _⟩ := h; exact frozen_of ht 1
  have hmn : m = s.xs.length := by
    rcases h.2.2 with ⟨e, _, e2, _⟩ | ⟨ps, _, _, _, _, _, e, _⟩
    · rw [e2] at hl ⊢; simp; omega
    · omega
  obtain ⟨n, hn⟩ : ∃ n : Nat, n = s.xs.length := ⟨_, rfl⟩
  rw [← hn] at L
  have HN : Hid (n = s.xs.length) := hn
  have hln : ¬ (n : Int) < m := by omega
  have hm3 : m < 4096 := by omega
  obtain ⟨B, hB⟩ : ∃ B, B = w.heap.size := ⟨_, rfl⟩
  simp only [World.heap_drewN] at A
  rw [← hB] at A ⊢
  have HB : Hid (B = w.heap.size) := hB
  have HM : Hid (m = n) := by rw [hn]; exact hmn
  clear hl hn hlt hB hmn
  have HH : Hid (RingAt w b pb m s) := h
  clear h
  rcases Nat.eq_zero_or_pos m with hm | hm
  · subst hm
    have hn0 : n = 0 := HM.out.symm
    subst hn0
    go_enter Try.func43, Try.ntmps43
    go_wp2
    go_quiet ((go_at_call 37; exact Calls.quiet_of (L _)))
    go_wp2_with fail
    go_at_call 44
    refine (A _).mono ?_
    rintro e w1 ⟨v, rfl, hI, hbel⟩
    obtain ⟨a, cap, rfl, hS⟩ := ints_form hI
    rw [← HN.out]
    have h1' : w1.cell? ⟨b, 1, none⟩ = some (.slice a0 0 0) := (hbel.cell (by have := HB.out; show b < B; omega)).trans h1
    have f1' : w1.frozen? ⟨b, 1, none⟩ = false := (hbel.frozen (by have := HB.out; show b < B; omega)).trans f1
    have hsz : B ≤ w1.heap.size := by have h7 : w.heap.size ≤ w1.heap.size := hbel.size; have := HB.out; omega
    clear hI
    go_wp2_with (at_make; refine wpList_make_full _ rfl _ _ 26 rfl B 33 i0 (.agg #[.int .i64 0, .int .i64 0, .int .i64 0, .string ⟨#[]⟩]) 4 Try.underlying26 hi hz0 hz1 _ _ _ _ 1 rfl rfl ?d1 ?d2 ?d3 ?d4 ?d5 ?_)
    case d1 => rfl
    case d2 => rfl
    case d3 => rw [hz2]; omega
    case d4 => unfold maxLen; omega
    case d5 => exact hsz
    · intro w2 hown2 hg2
      have h1'' : w2.cell? ⟨b, 1, none⟩ = some (.slice a0 0 0) := (World.cell?_of_block (hg2.block b (by have := HB.out; omega) (by simp))).trans h1'
      have f1'' : w2.frozen? ⟨b, 1, none⟩ = false := (World.frozen?_of_block (hg2.block b (by have := HB.out; omega) (by simp))).trans f1'
      have hst := fill_start HH.out hla (w1 := w1) (w2 := w2) (by rw [← HB.out]; exact ⟨hbel.os, hbel.tape, hbel.output, hbel.size, hbel.block⟩) (by rw [← HB.out]; exact hS) (by rw [← HB.out]; exact hown2) hg2
      obtain ⟨t, hst⟩ := hst
      obtain ⟨nb, hnb⟩ : ∃ nb, nb = w1.heap.size := ⟨_, rfl⟩
      rw [← hnb] at hst ⊢
      have hnb1 : w.heap.size ≤ nb := by have := HB.out; omega
      clear hown2 hg2 hS hbel h1' f1' hnb A L
      go_wp2
      refine wp_loop_rounds 1 ?_
      rw [rounds_succ]
      go_wp2
      have h0 : s.xs.length = 0 := HN.out.symm
      refine bodyPost_end (results_none rfl _ _ _) rfl ⟨rfl, nb, 1, ?_, by omega, by have := HB.out; omega, hst.2.2.1⟩
      exact fill_end (t := t) (a := a) (w0 := w) (pb := pb) (by rw [h0]; exact hst) HH.out.1 hla (by omega) ⟨0, rfl⟩ (by omega) (by omega)
  · have hm1 : (1 : Int) < 2 * (m : Int) := by omega
    go_enter Try.func43, Try.ntmps43
    go_wp2
    go_quiet ((go_at_call 37; exact Calls.quiet_of (L _)))
    go_wp2_with fail
    go_at_call 44
    refine (A _).mono ?_
    rintro e w1 ⟨v, rfl, hI, hbel⟩
    obtain ⟨a, cap, rfl, hS⟩ := ints_form hI
    have h1' : w1.cell? ⟨b, 1, none⟩ = some (.slice a0 m m) := (hbel.cell (by have := HB.out; show b < B; omega)).trans h1
    have f1' : w1.frozen? ⟨b, 1, none⟩ = false := (hbel.frozen (by have := HB.out; show b < B; omega)).trans f1
    have hsz : B ≤ w1.heap.size := by have h7 : w.heap.size ≤ w1.heap.size := hbel.size; have := HB.out; omega
    clear hI
    go_wp2_with (at_make; refine wpList_make_full _ rfl _ _ 26 rfl B 33 i0 (.agg #[.int .i64 0, .int .i64 0, .int .i64 0, .string ⟨#[]⟩]) 4 Try.underlying26 hi hz0 hz1 _ _ _ _ (2 * m) rfl rfl ?d1 ?d2 ?d3 ?d4 ?d5 ?_)
    case d1 => omega
    case d2 => omega
    case d3 => rw [hz2]; omega
    case d4 => unfold maxLen; omega
    case d5 => exact hsz
    · intro w2 hown2 hg2
      have h1'' : w2.cell? ⟨b, 1, none⟩ = some (.slice a0 m m) := (World.cell?_of_block (hg2.block b (by have := HB.out; omega) (by simp))).trans h1'
      have f1'' : w2.frozen? ⟨b, 1, none⟩ = false := (World.frozen?_of_block (hg2.block b (by have := HB.out; omega) (by simp))).trans f1'
      have hst := fill_start HH.out hla (w1 := w1) (w2 := w2) (by rw [← HB.out]; exact ⟨hbel.os, hbel.tape, hbel.output, hbel.size, hbel.block⟩) (by rw [← HB.out]; exact hS) (by rw [← HB.out]; exact hown2) hg2
      obtain ⟨t, hst⟩ := hst
      have hga : ∀ g, a = some ⟨g, 0, none⟩ → g ≠ w1.heap.size := fun g hg => by
        obtain ⟨g', e1, _, e3, _⟩ := hS 0 (by have := HN.out; have := HM.out; omega)
        rw [hg] at e1; simp at e1; omega
      obtain ⟨nb, hnb⟩ : ∃ nb, nb = w1.heap.size := ⟨_, rfl⟩
      rw [← hnb] at hst hga ⊢
      have hnb1 : w.heap.size ≤ nb := by have := HB.out; omega
      clear hown2 hg2 hS hbel h1' f1' hnb A L
      go_wp2
      have hM1 : (∃ k, 2 * m = 2 ^ k) ∧ 2 * m ≤ 4096 := by
        obtain ⟨ps, ⟨k, hk⟩, _⟩ := HH.out.filled hm
        have h12 : k < 12 := by
          rcases Nat.lt_or_ge k 12 with c | c
          · exact c
          · have := Nat.pow_le_pow_right (n := 2) (by omega) c; omega
        have := Nat.pow_le_pow_right (n := 2) (by omega) (show k + 1 ≤ 12 from h12)
        exact ⟨⟨k + 1, by rw [hk]; omega⟩, by omega⟩
      have HM1 : Hid ((∃ k, 2 * m = 2 ^ k) ∧ 2 * m ≤ 4096) := hM1
      have HGA : Hid (∀ g, a = some ⟨g, 0, none⟩ → g ≠ nb) := hga
      clear hM1 hga
      obtain ⟨l, hl⟩ : ∃ l : Nat, l = s.xs.length := ⟨_, rfl⟩
      rw [← hl]
      have HL : Hid (l = s.xs.length) := hl
      have hl4 : l ≤ 4096 := by have := HN.out; have := HM.out; omega
      clear hl
      obtain ⟨M, hMM⟩ : ∃ M, M = 2 * m := ⟨_, rfl⟩
      have HMM : Hid (M = 2 * m) := hMM
      rw [← hMM] at hst HM1 ⊢
      clear hMM
      go_loopw [28] (fun i wr => ∃ k : Nat, k ≤ l ∧ i = .int .i64 k ∧ Filling w b pb nb M t s a k wr) (fun i _ => l - (intOf i).toNat)
      case atStart => exact ⟨0, Nat.zero_le _, rfl, hst⟩
      case round =>
        clear hst h1'' f1''
        obtain ⟨k, hk, rfl, hF⟩ := hrel
        by_cases hlt : k < l
        · obtain ⟨g, rfl, g2, g3, g4, g5, g6, g7⟩ := hF.src k (by have := HL.out; omega)
          have c1 : wr.cell? ⟨b, 1, none⟩ = some (.slice (some ⟨nb, 0, none⟩) M M) := by rw [cell_of hF.1]; rfl
          have c3 : wr.cell? ⟨b, 3, none⟩ = some (.int .u32 s.o) := by rw [cell_of hF.1]; rfl
          have hlk : k < s.xs.length := by have := HL.out; omega
          have hlM : s.xs.length < M := by have := HMM.out; have := HN.out; have := HM.out; omega
          have hM0 : 0 < M := by omega
          obtain ⟨q, hq⟩ : ∃ q, q = (s.o + k) % M := ⟨_, rfl⟩
          obtain ⟨x, hx⟩ : ∃ x, x = s.xs.getD k zc := ⟨_, rfl⟩
          have HF2 : Hid (∀ V, Filling w b pb nb M t s (some ⟨g, 0, none⟩) k V → Filling w b pb nb M t s (some ⟨g, 0, none⟩) (k + 1) ((((V.setCell ⟨nb, q * 4, none⟩ (.int .i64 x.s)).setCell ⟨nb, q * 4 + 1, none⟩ (.int .i64 x.d)).setCell ⟨nb, q * 4 + 2, none⟩ (.int .i64 x.q)).setCell ⟨nb, q * 4 + 3, none⟩ (.string x.x))) := show _ from fun V hV => by
            rw [hq, hx]
            exact fill_step hV hlk hlM hnb1 hbb.1 (HGA.out)
          have c8 : q < M := by rw [hq]; exact Nat.mod_lt _ hM0
          have HC : Hid (∀ V, Filling w b pb nb M t s (some ⟨g, 0, none⟩) k V → V.cell? ⟨b, 3, none⟩ = some (.int .u32 s.o) ∧ (∃ y, V.cell? ⟨nb, q * 4, none⟩ = some y) ∧ (∃ y, V.cell? ⟨nb, q * 4 + 1, none⟩ = some y) ∧ (∃ y, V.cell? ⟨nb, q * 4 + 2, none⟩ = some y) ∧ (∃ y, V.cell? ⟨nb, q * 4 + 3, none⟩ = some y) ∧ V.frozen? ⟨nb, q * 4, none⟩ = false ∧ V.frozen? ⟨nb, q * 4 + 1, none⟩ = false ∧ V.frozen? ⟨nb, q * 4 + 2, none⟩ = false ∧ V.frozen? ⟨nb, q * 4 + 3, none⟩ = false) := show _ from fun V hV => by
            obtain ⟨h1, ⟨qs, h2, h3, _⟩, _⟩ := hV
            obtain ⟨z0, z1, z2, z3⟩ := cc_at qs q _ (List.getElem?_eq_getElem (by omega))
            exact ⟨by rw [cell_of h1]; rfl, ⟨_, (cell_of h2 _).trans (by simpa using z0)⟩, ⟨_, (cell_of h2 _).trans (by simpa using z1)⟩, ⟨_, (cell_of h2 _).trans (by simpa using z2)⟩, ⟨_, (cell_of h2 _).trans (by simpa using z3)⟩, frozen_of h2 _, frozen_of h2 _, frozen_of h2 _, frozen_of h2 _⟩
          have HP : Hid (∀ V, Filling w b pb nb M t s (some ⟨g, 0, none⟩) k V → Calls Try.prog 42 #[.pointer (some ⟨b, 0, none⟩), .int .u32 (IntKind.u32.wrap ((s.o : Int) + IntKind.u32.wrap (k : Int)))] V fun e w' => e = .returned (.pointer (some ⟨nb, q * 4, none⟩)) ∧ ∃ n', w' = V.drewN n') := show _ from fun V hV => by
            obtain ⟨⟨kk, hkk⟩, hkm⟩ := HM1.out
            have := place_any b nb M kk ((s.o + k) % 4294967296 : Nat) V (by omega) (by omega) hkk hkm (by rw [cell_of hV.1]; rfl)
            rw [toNat_mod, mod32 hkk hkm, ← hq] at this
            have e : (((s.o + k) % 4294967296 : Nat) : Int) = IntKind.u32.wrap ((s.o : Int) + IntKind.u32.wrap (k : Int)) := by
              simp only [IntKind.wrap, IntKind.bits, IntKind.signed]
              simp
            rw [e] at this
            exact this
          rw [← hx] at g4 g5 g6 g7
          have hk4 : k < 4096 := by omega
          have HF : Hid (Filling w b pb nb M t s (some ⟨g, 0, none⟩) k (wr.alloc (.cells (pk4 x).toArray 33))) := hF.alloc _
          have NB : Hid ((wr.alloc (.cells (pk4 x).toArray 33)).heap[wr.heap.size]? = some (.cells (pk4 x).toArray 33 (0, 0))) := heap_alloc_new wr _
          clear hx hq hlM c8 hlk hF hM0
          obtain ⟨xa, xb, xc, xd⟩ := x
          simp only at g4 g5 g6 g7 HF2
          go_upto_region 6 with fail
          generalize wr.alloc (.cells (pk4 ⟨xa, xb, xc, xd⟩).toArray 33) = v at *
          have SS : Hid (∀ n, (fun V : World => V.cell? ⟨b, 3, none⟩ = some (.int .u32 s.o) ∧ V.cell? ⟨wr.heap.size, 0, none⟩ = some (.int .i64 xa) ∧ V.cell? ⟨wr.heap.size, 1, none⟩ = some (.int .i64 xb) ∧ V.cell? ⟨wr.heap.size, 2, none⟩ = some (.int .i64 xc) ∧ V.cell? ⟨wr.heap.size, 3, none⟩ = some (.string xd)) (v.drewN n)) := show _ from fun n => ⟨(HC.out _ (HF.out.drewN n)).1, (cell_of NB.out 0).trans rfl, (cell_of NB.out 1).trans rfl, (cell_of NB.out 2).trans rfl, (cell_of NB.out 3).trans rfl⟩
          have S0 : (fun V : World => V.cell? ⟨b, 3, none⟩ = some (.int .u32 s.o) ∧ V.cell? ⟨wr.heap.size, 0, none⟩ = some (.int .i64 xa) ∧ V.cell? ⟨wr.heap.size, 1, none⟩ = some (.int .i64 xb) ∧ V.cell? ⟨wr.heap.size, 2, none⟩ = some (.int .i64 xc) ∧ V.cell? ⟨wr.heap.size, 3, none⟩ = some (.string xd)) v.drew := SS.out 1
          refine wp_region_G (fun V : World => V.cell? ⟨b, 3, none⟩ = some (.int .u32 s.o) ∧ V.cell? ⟨wr.heap.size, 0, none⟩ = some (.int .i64 xa) ∧ V.cell? ⟨wr.heap.size, 1, none⟩ = some (.int .i64 xb) ∧ V.cell? ⟨wr.heap.size, 2, none⟩ = some (.int .i64 xc) ∧ V.cell? ⟨wr.heap.size, 3, none⟩ = some (.string xd)) 11 (by kernel_rfl) ?_
          refine wpAnyG_take [11] (some 33) (i := 0) (v := ?v0) rfl rfl (by kernel_rfl) (by kernel_rfl) (by kernel_rfl) (by kernel_rfl) (fun _ _ _ h => h) (Or.inl ⟨by rfl, ?y0⟩) S0 ?r0
          case y0 => (intro V hSV; obtain ⟨d0, d1, d2, d3, d4⟩ := hSV; go_simp; try with_reducible rfl)
          simp only [Act.put, List.setIfInBounds_toArray, List.set_cons_zero, List.set_cons_succ]
          refine wpAnyG_take [11] (some 34) (i := 1) (v := ?v1) rfl rfl (by kernel_rfl) (by kernel_rfl) (by kernel_rfl) (by kernel_rfl) (fun _ _ _ h => h) (Or.inl ⟨by rfl, ?y1⟩) S0 ?r1
          case y1 => (intro V hSV; obtain ⟨d0, d1, d2, d3, d4⟩ := hSV; go_simp; try with_reducible rfl)
          simp only [Act.put, List.setIfInBounds_toArray, List.set_cons_zero, List.set_cons_succ]
          refine wpAnyG_take [11] (some 35) (i := 2) (v := ?v2) rfl rfl (by kernel_rfl) (by kernel_rfl) (by kernel_rfl) (by kernel_rfl) (fun _ _ _ h => h) (Or.inl ⟨by rfl, ?y2⟩) S0 ?r2
          case y2 => (intro V hSV; obtain ⟨d0, d1, d2, d3, d4⟩ := hSV; go_simp; try with_reducible rfl)
          simp only [Act.put, List.setIfInBounds_toArray, List.set_cons_zero, List.set_cons_succ]
          refine wpAnyG_take [11] (some 36) (i := 3) (v := ?v3) rfl rfl (by kernel_rfl) (by kernel_rfl) (by kernel_rfl) (by kernel_rfl) (fun _ _ _ h => h) (Or.inl ⟨by rfl, ?y3⟩) S0 ?r3
          case y3 => (intro V hSV; obtain ⟨d0, d1, d2, d3, d4⟩ := hSV; go_simp; try with_reducible rfl)
          simp only [Act.put, List.setIfInBounds_toArray, List.set_cons_zero, List.set_cons_succ]
          refine wpAnyG_take [11] (some 37) (i := 4) (v := ?v4) rfl rfl (by kernel_rfl) (by kernel_rfl) (by kernel_rfl) (by kernel_rfl) (fun _ _ _ h => h) (Or.inl ⟨by rfl, ?y4⟩) S0 ?r4
          case y4 => (intro V hSV; obtain ⟨d0, d1, d2, d3, d4⟩ := hSV; go_simp; try with_reducible rfl)
          simp only [Act.put, List.setIfInBounds_toArray, List.set_cons_zero, List.set_cons_succ]
          refine wpAnyG_take [11] (some 38) (i := 5) (v := ?v5) rfl rfl (by kernel_rfl) (by kernel_rfl) (by kernel_rfl) (by kernel_rfl) (fun _ _ _ h => h) (Or.inl ⟨by rfl, ?y5⟩) S0 ?r5
          case y5 => (intro V hSV; obtain ⟨d0, d1, d2, d3, d4⟩ := hSV; go_simp; try with_reducible rfl)
          simp only [Act.put, List.setIfInBounds_toArray, List.set_cons_zero, List.set_cons_succ]
          refine wpAnyG_take [11] (some 39) (i := 6) (v := ?v6) rfl rfl (by kernel_rfl) (by kernel_rfl) (by kernel_rfl) (by kernel_rfl) (fun _ _ _ h => h) (Or.inl ⟨by rfl, ?y6⟩) S0 ?r6
          case y6 => (intro V hSV; obtain ⟨d0, d1, d2, d3, d4⟩ := hSV; go_simp; try with_reducible rfl)
          simp only [Act.put, List.setIfInBounds_toArray, List.set_cons_zero, List.set_cons_succ]
          refine wpAnyG_take [11] (some 40) (i := 7) (v := ?v7) rfl rfl (by kernel_rfl) (by kernel_rfl) (by kernel_rfl) (by kernel_rfl) (fun _ _ _ h => h) (Or.inl ⟨by rfl, ?y7⟩) S0 ?r7
          case y7 => (intro V hSV; obtain ⟨d0, d1, d2, d3, d4⟩ := hSV; go_simp; try with_reducible rfl)
          simp only [Act.put, List.setIfInBounds_toArray, List.set_cons_zero, List.set_cons_succ]
          refine wpAnyG_take [11] (some 42) (i := 9) (v := ?v9) rfl rfl (by kernel_rfl) (by kernel_rfl) (by kernel_rfl) (by kernel_rfl) (fun _ _ _ h => h) (Or.inl ⟨by rfl, ?y9⟩) S0 ?r9
          case y9 => (intro V hSV; obtain ⟨d0, d1, d2, d3, d4⟩ := hSV; go_simp; try with_reducible rfl)
          simp only [Act.put, List.setIfInBounds_toArray, List.set_cons_zero, List.set_cons_succ]
          refine wpAnyG_one (i := 8) (by kernel_rfl) rfl (fun K hK => ?_)
          go_simp
          have FD : Filling w b pb nb M t s (some ⟨g, 0, none⟩) k v.drew := HF.out.drewN 1
          with_reducible refine (HP.out v.drew FD).mono ?_
          rintro e w' ⟨rfl, n2, rfl⟩
          have F2 : Hid (Filling w b pb nb M t s (some ⟨g, 0, none⟩) k (v.drew.drewN n2)) := FD.drewN n2
          have S2 : (fun V : World => V.cell? ⟨b, 3, none⟩ = some (.int .u32 s.o) ∧ V.cell? ⟨wr.heap.size, 0, none⟩ = some (.int .i64 xa) ∧ V.cell? ⟨wr.heap.size, 1, none⟩ = some (.int .i64 xb) ∧ V.cell? ⟨wr.heap.size, 2, none⟩ = some (.int .i64 xc) ∧ V.cell? ⟨wr.heap.size, 3, none⟩ = some (.string xd)) (v.drew.drewN n2) := ⟨(HC.out _ F2.out).1, (cell_of NB.out 0).trans rfl, (cell_of NB.out 1).trans rfl, (cell_of NB.out 2).trans rfl, (cell_of NB.out 3).trans rfl⟩
          refine hK.out _ _ (Or.inr S2) ?_
          clear hK K S0 SS
          generalize v.drew.drewN n2 = u at *
          refine wpAnyG_one (i := 10) (by kernel_rfl) rfl (fun K hK => ?_)
          go_simp
          refine hK.out _ _ (Or.inr S2) ?_
          clear hK K
          obtain ⟨-, ⟨y0, g0⟩, ⟨y1, g1⟩, ⟨y2, e2⟩, ⟨y3, e3⟩, f0, f1, f2, f3⟩ := HC.out u F2.out
          have hF2 := HF2.out u F2.out
          refine wpAnyG_one (i := 11) (by kernel_rfl) rfl (fun K hK => ?_)
          go_simp
          refine hK.out _ _ (Or.inl (by kernel_rfl)) ?_
          clear hK K S2
          refine wpAnyG_done (by kernel_rfl) ?_ _
          go_wp2
          go_roundw
          case rel => exact ⟨k + 1, by omega, by go_num, hF2⟩
          case measure => simp [intOf]; omega
        · go_wp2
          obtain rfl : k = l := by omega
          refine bodyPost_end (results_none rfl _ _ _) rfl ⟨rfl, nb, M, ?_, ?_, by have := HB.out; omega, hF.2.2.1⟩
          · have h7 := HL.out
            subst h7
            exact fill_end hF HH.out.1 hla (by have := HMM.out; have := HN.out; have := HM.out; omega) HM1.out.1 HM1.out.2 (by have := HB.out; omega)
          · have := HMM.out; have := HN.out; have := HM.out; omega

end
end Go.Proofs.Ytpmkpjnhdehnhaa.RP
