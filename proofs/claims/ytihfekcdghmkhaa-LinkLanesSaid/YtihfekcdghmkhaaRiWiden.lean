/-
  widen over a ring.
-/
import Derived.Test.YtihfekcdghmkhaaRiAll
namespace Go.Proofs.Ytihfekcdghmkhaa.RI
open Go.RowKit

/-- What a slice value of the call's own reads as. -/
def Src (w : World) (B : Nat) (a : Option Addr) (l : List Int) : Prop :=
  ∀ j, j < l.length → ∃ g, a = some ⟨g, 0, none⟩ ∧ B ≤ g ∧ g < w.heap.size ∧ w.cell? ⟨g, j, none⟩ = some (.int .i64 (l.getD j 0))

theorem ints_form {w : World} {B : Nat} {v : Value} {l : List Int} (h : Ints w B v l) : ∃ a cap, v = .slice a l.length cap ∧ Src w B a l := by
  obtain ⟨h1, h2⟩ := h
  rcases h2 with ⟨rfl, h2⟩ | ⟨g, cap, cur, rfl, hg, hh, hc1, hc2, hc3, hc4⟩
  · refine ⟨none, 0, by rw [h2], fun j hj => by omega⟩
  · refine ⟨_, cap, rfl, fun j hj => ⟨g, rfl, hg, lt_of_heap hh, ?_⟩⟩
    rw [cell_of hh]
    have : cur[j]? = (List.take (l.length * 1) cur.toList)[j]? := by rw [List.getElem?_take_of_lt (by omega)]; simp
    rw [this, hc4]
    simp [hj]

theorem Src.keep {w w' : World} {B : Nat} {a : Option Addr} {l : List Int} (h : Src w B a l) (hs : w.heap.size ≤ w'.heap.size) (hk : ∀ g, B ≤ g → g < w.heap.size → w'.heap[g]? = w.heap[g]?) : Src w' B a l := fun j hj => by
  obtain ⟨g, h1, h2, h3, h4⟩ := h j hj
  exact ⟨g, h1, h2, by omega, by rw [World.cell?_of_block (hk g h2 h3)]; exact h4⟩

section
variable {w : World} {b pb m : Nat} {s : RingSt}

theorem RingAt.cell1 (h : RingAt w b pb m s) : ∃ a0, w.cell? ⟨b, 1, none⟩ = some (.slice a0 m m) := by
  obtain ⟨_, ⟨t, ht⟩, _⟩ := h
  rcases Nat.eq_zero_or_pos m with rfl | hm
  · exact ⟨none, by rw [cell_of ht]; rfl⟩
  · exact ⟨_, by rw [cell_of ht, pval_pos hm]; rfl⟩

theorem widen_no (h : RingAt w b pb m s) (hl : s.xs.length < m) :
    Calls Try.prog 61 #[.pointer (some ⟨b, 0, none⟩)] w fun e w' => e = .returned (.tuple #[]) ∧ ∃ n, w' = w.drewN n := by
  obtain ⟨a0, h1⟩ := h.cell1
  have L := fun n => ring_len (h.drewN n)
  obtain ⟨n, hn⟩ : ∃ n : Nat, n = s.xs.length := ⟨_, rfl⟩
  rw [← hn] at L hl
  clear hn h
  go_enter Try.func61, Try.ntmps61
  go_wp2
  go_quiet ((go_at_call 46; exact Calls.quiet_of (L _)))
  go_wp2
  exact bodyPost_ret (results_none rfl _ _ _) rfl ⟨rfl, _, rfl⟩

/-- The loop's relation: the new places, filled up to k. -/
def Filling (w0 : World) (b pb nb M : Nat) (t : TypeId) (s : RingSt) (a : Option Addr) (k : Nat) (wr : World) : Prop :=
  wr.heap[b]? = some (.cells #[.int .i64 s.room, .slice (some ⟨nb, 0, none⟩) M M, .int .u32 (s.i : Int), .int .u32 (s.o : Int), .bool false] t (0, 0)) ∧
  (∃ qs : List Int, wr.heap[nb]? = some (.cells ⟨qs.map (.int .i64)⟩ 3 (0, 0)) ∧ qs.length = M ∧ ∀ j, j < k → qs[(s.o + j) % M]? = s.xs[j]?) ∧
  Fr b pb w0 wr ∧ Src wr w0.heap.size a s.xs

theorem Filling.drewN {w0 wr : World} {b pb nb M : Nat} {t : TypeId} {s : RingSt} {a : Option Addr} {k : Nat} (h : Filling w0 b pb nb M t s a k wr) (n : Nat) : Filling w0 b pb nb M t s a k (wr.drewN n) := ⟨h.1, h.2.1, h.2.2.1.drewN n, h.2.2.2⟩

theorem made_zeros (n : Nat) : (madeCells #[Value.int .i64 0] n).toList = (List.replicate n (0 : Int)).map (.int .i64) := by
  unfold madeCells
  apply List.ext_getElem <;> simp [Nat.mod_one]

theorem fill_start (h : RingAt w b pb m s) (hla : s.laid = false) {w1 w2 : World} (hbel : Below w.heap.size w w1) {a : Option Addr} (hS : Src w1 w.heap.size a s.xs) {M : Nat}
    (hown : w2.ownsRow w.heap.size 3 1 (.slice (some ⟨w1.heap.size, 0, none⟩) M M) M (madeCells #[Value.int .i64 0] M).toList) (hg : w1.grownBy w2 none) :
    ∃ t, Filling w b pb w1.heap.size M t s a 0 (w2.setCell ⟨b, 1, none⟩ (.slice (some ⟨w1.heap.size, 0, none⟩) M M)) := by
  obtain ⟨ok, ⟨t, ht⟩, h3⟩ := h
  have hb := lt_of_heap ht
  have s1 := hbel.size
  have s2 := hg.size
  have e1 : w1.heap[b]? = w.heap[b]? := hbel.block b hb
  have e2 : w2.heap[b]? = w1.heap[b]? := hg.block b (by omega) (by simp)
  refine ⟨t, ?_, ?_, ?_, ?_⟩
  · rw [heap_set (c := #[.int .i64 s.room, pval pb m, .int .u32 (s.i : Int), .int .u32 (s.o : Int), .bool s.laid]) (t := t) (fr := (0, 0)) (by rw [e2, e1]; exact ht)]
    simp [hla]
  · obtain ⟨_, h2⟩ := hown
    rcases h2 with ⟨h2, _⟩ | ⟨g, cap, cur, h4, hg', hh, hc1, hc2, hc3, hc4⟩
    · cases h2
    · simp only [Value.slice.injEq, Option.some.injEq, Addr.mk.injEq, and_true, true_and] at h4
      obtain ⟨rfl, rfl⟩ := h4
      refine ⟨List.replicate M 0, ?_, by simp, fun j hj => absurd hj (Nat.not_lt_zero j)⟩
      rw [heap_set_ne _ (by show w1.heap.size ≠ b; omega), hh]
      rw [List.take_of_length_le (by simp [hc3]), made_zeros] at hc4
      have : cur = ⟨List.map (Value.int IntKind.i64) (List.replicate M 0)⟩ := by
        apply Array.toList_inj.1; rw [hc4]
      rw [this]
  · refine Fr.set0 ⟨hg.os.trans hbel.os, hg.tape.trans hbel.tape, hg.output.trans hbel.output, by omega, fun k hk _ _ => ?_⟩ _ _
    rw [hg.block k (by omega) (by simp), hbel.block k hk]
  · refine hS.keep (by simp; omega) fun g g1 g2 => ?_
    rw [heap_set_ne _ (by show g ≠ b; omega), hg.block g (by omega) (by simp)]

theorem fill_step {w0 wr : World} {nb M : Nat} {t : TypeId} {a : Option Addr} {k : Nat} (h : Filling w0 b pb nb M t s a k wr) (hk : k < s.xs.length) (hM : s.xs.length < M) (hnb : w0.heap.size ≤ nb)
    (hb : b < w0.heap.size) (hg : ∀ g, a = some ⟨g, 0, none⟩ → g ≠ nb) :
    Filling w0 b pb nb M t s a (k + 1) (wr.setCell ⟨nb, (s.o + k) % M, none⟩ (.int .i64 (s.xs.getD k 0))) := by
  obtain ⟨h1, ⟨qs, h2, h3, h4⟩, h5, h6⟩ := h
  refine ⟨?_, ⟨qs.set ((s.o + k) % M) (s.xs.getD k 0), ?_, by simpa using h3, ?_⟩, ?_, ?_⟩
  · rw [heap_set_ne _ (by show b ≠ nb; omega)]; exact h1
  · rw [heap_set h2]; simp [List.map_set]
  · intro j hj
    rcases Nat.lt_or_ge j k with c | c
    · rw [List.getElem?_set_ne]
      · exact h4 j c
      · intro d
        have := dist (m := M) (o := s.o) (j := k) (j' := j) (by omega) (by omega) d
        omega
    · obtain rfl : j = k := by omega
      rw [List.getElem?_set_self (by rw [h3]; exact Nat.mod_lt _ (by omega))]
      simp [hk]
  · exact h5.setCell (Or.inr (Or.inr hnb)) _
  · intro j hj
    obtain ⟨g, g1, g2, g3, g4⟩ := h6 j hj
    refine ⟨g, g1, g2, by simpa using g3, ?_⟩
    rw [World.cell?_of_block (heap_set_ne _ (by exact hg g g1))]
    exact g4

theorem fill_end {w0 wr : World} {nb M : Nat} {t : TypeId} {a : Option Addr} (h : Filling w0 b pb nb M t s a s.xs.length wr) (ok : RingOk s) (hla : s.laid = false) (hM : s.xs.length < M) (hM1 : ∃ k, M = 2 ^ k) (hM2 : M ≤ 4096) (hnb : b < nb) :
    RingAt wr b nb M s := by
  obtain ⟨h1, ⟨qs, h2, h3, h4⟩, h5, h6⟩ := h
  refine ⟨ok, ⟨t, ?_⟩, Or.inr ⟨qs, hM1, hM2, by omega, h2, h3, by rw [hla]; simp [one]; omega, h4, ?_⟩⟩
  · rw [pval_pos (by omega), hla]; exact h1
  · intro c; rw [hla] at c; cases c

theorem Filling.src {w0 wr : World} {nb M : Nat} {t : TypeId} {a : Option Addr} {k : Nat} (h : Filling w0 b pb nb M t s a k wr) : Src wr w0.heap.size a s.xs := h.2.2.2

set_option maxHeartbeats 1000000 in
theorem widen_yes (h : RingAt w b pb m s) (hl : m ≤ s.xs.length) (hla : s.laid = false) (hlt : (s.xs.length : Int) < min (max s.room 1) 4096) :
    Calls Try.prog 61 #[.pointer (some ⟨b, 0, none⟩)] w fun e w' => e = .returned (.tuple #[]) ∧ ∃ nb M, RingAt w' b nb M s ∧ s.xs.length < M ∧ w.heap.size ≤ nb ∧ Fr b pb w w' := by
  obtain ⟨i0, hi, hz0, hz1, hz2⟩ := info_parts Try.info3
  obtain ⟨a0, h1⟩ := h.cell1
  have hbb := h.lt
  have L := fun n => ring_len (h.drewN n)
  have A := fun n => ring_all (h.drewN n)
  have f1 : w.frozen? ⟨b, 1, none⟩ = false := by obtain ⟨_, ⟨t, ht⟩, _⟩ := h; exact frozen_of ht 1
  have hmn : m = s.xs.length := by
    rcases h.2.2 with ⟨e, _, e2, _⟩ | ⟨ps, _, _, _, _, _, e, _⟩
    · rw [e2] at hl ⊢; simp; omega
    · omega
  obtain ⟨n, hn⟩ : ∃ n : Nat, n = s.xs.length := ⟨_, rfl⟩
  rw [← hn] at L
  have HN : Hid (n = s.xs.length) := hn
  have hln : ¬ (n : Int) < m := by omega
  have hm3 : m < 4096 := by omega
  obtain ⟨B, hB⟩ : ∃ B, B = w.heap.size := ⟨_, rfl⟩
  simp only [World.heap_drewN] at A
  rw [← hB] at A ⊢
  have HB : Hid (B = w.heap.size) := hB
  have HM : Hid (m = n) := by rw [hn]; exact hmn
  clear hl hn hlt hB hmn
  have HH : Hid (RingAt w b pb m s) := h
  clear h
  rcases Nat.eq_zero_or_pos m with hm | hm
  · subst hm
    have hn0 : n = 0 := HM.out.symm
    subst hn0
    go_enter Try.func61, Try.ntmps61
    go_wp2
    go_quiet ((go_at_call 46; exact Calls.quiet_of (L _)))
    go_wp2_with fail
    go_at_call 65
    refine (A _).mono ?_
    rintro e w1 ⟨v, rfl, hI, hbel⟩
    obtain ⟨a, cap, rfl, hS⟩ := ints_form hI
    rw [← HN.out]
    have h1' : w1.cell? ⟨b, 1, none⟩ = some (.slice a0 0 0) := (hbel.cell (by have := HB.out; show b < B; omega)).trans h1
    have f1' : w1.frozen? ⟨b, 1, none⟩ = false := (hbel.frozen (by have := HB.out; show b < B; omega)).trans f1
    have hsz : B ≤ w1.heap.size := by have h7 : w.heap.size ≤ w1.heap.size := hbel.size; have := HB.out; omega
    clear hI
    go_wp2_with (at_make; refine wpList_make_full _ rfl _ _ 27 rfl B 3 i0 (.int .i64 0) 1 Try.underlying27 hi hz0 hz1 _ _ _ _ 1 rfl rfl ?d1 ?d2 ?d3 ?d4 ?d5 ?_)
    case d1 => rfl
    case d2 => rfl
    case d3 => rw [hz2]; omega
    case d4 => unfold maxLen; omega
    case d5 => exact hsz
    · intro w2 hown2 hg2
      have h1'' : w2.cell? ⟨b, 1, none⟩ = some (.slice a0 0 0) := (World.cell?_of_block (hg2.block b (by have := HB.out; omega) (by simp))).trans h1'
      have f1'' : w2.frozen? ⟨b, 1, none⟩ = false := (World.frozen?_of_block (hg2.block b (by have := HB.out; omega) (by simp))).trans f1'
      have hst := fill_start HH.out hla (w1 := w1) (w2 := w2) (by rw [← HB.out]; exact ⟨hbel.os, hbel.tape, hbel.output, hbel.size, hbel.block⟩) (by rw [← HB.out]; exact hS) (by rw [← HB.out]; exact hown2) hg2
      obtain ⟨t, hst⟩ := hst
      obtain ⟨nb, hnb⟩ : ∃ nb, nb = w1.heap.size := ⟨_, rfl⟩
      rw [← hnb] at hst ⊢
      have hnb1 : w.heap.size ≤ nb := by have := HB.out; omega
      clear hown2 hg2 hS hbel h1' f1' hnb A L
      go_wp2
      refine wp_loop_rounds 1 ?_
      rw [rounds_succ]
      go_wp2
      have h0 : s.xs.length = 0 := HN.out.symm
      refine bodyPost_end (results_none rfl _ _ _) rfl ⟨rfl, nb, 1, ?_, by omega, by have := HB.out; omega, hst.2.2.1⟩
      exact fill_end (t := t) (a := a) (w0 := w) (pb := pb) (by rw [h0]; exact hst) HH.out.1 hla (by omega) ⟨0, rfl⟩ (by omega) (by omega)
  · have hm1 : (1 : Int) < 2 * (m : Int) := by omega
    go_enter Try.func61, Try.ntmps61
    go_wp2
    go_quiet ((go_at_call 46; exact Calls.quiet_of (L _)))
    go_wp2_with fail
    go_at_call 65
    refine (A _).mono ?_
    rintro e w1 ⟨v, rfl, hI, hbel⟩
    obtain ⟨a, cap, rfl, hS⟩ := ints_form hI
    have h1' : w1.cell? ⟨b, 1, none⟩ = some (.slice a0 m m) := (hbel.cell (by have := HB.out; show b < B; omega)).trans h1
    have f1' : w1.frozen? ⟨b, 1, none⟩ = false := (hbel.frozen (by have := HB.out; show b < B; omega)).trans f1
    have hsz : B ≤ w1.heap.size := by have h7 : w.heap.size ≤ w1.heap.size := hbel.size; have := HB.out; omega
    clear hI
    go_wp2_with (at_make; refine wpList_make_full _ rfl _ _ 27 rfl B 3 i0 (.int .i64 0) 1 Try.underlying27 hi hz0 hz1 _ _ _ _ (2 * m) rfl rfl ?d1 ?d2 ?d3 ?d4 ?d5 ?_)
    case d1 => omega
    case d2 => omega
    case d3 => rw [hz2]; omega
    case d4 => unfold maxLen; omega
    case d5 => exact hsz
    · intro w2 hown2 hg2
      have h1'' : w2.cell? ⟨b, 1, none⟩ = some (.slice a0 m m) := (World.cell?_of_block (hg2.block b (by have := HB.out; omega) (by simp))).trans h1'
      have f1'' : w2.frozen? ⟨b, 1, none⟩ = false := (World.frozen?_of_block (hg2.block b (by have := HB.out; omega) (by simp))).trans f1'
      have hst := fill_start HH.out hla (w1 := w1) (w2 := w2) (by rw [← HB.out]; exact ⟨hbel.os, hbel.tape, hbel.output, hbel.size, hbel.block⟩) (by rw [← HB.out]; exact hS) (by rw [← HB.out]; exact hown2) hg2
      obtain ⟨t, hst⟩ := hst
      have hga : ∀ g, a = some ⟨g, 0, none⟩ → g ≠ w1.heap.size := fun g hg => by
        obtain ⟨g', e1, _, e3, _⟩ := hS 0 (by have := HN.out; have := HM.out; omega)
        rw [hg] at e1; simp at e1; omega
      obtain ⟨nb, hnb⟩ : ∃ nb, nb = w1.heap.size := ⟨_, rfl⟩
      rw [← hnb] at hst hga ⊢
      have hnb1 : w.heap.size ≤ nb := by have := HB.out; omega
      clear hown2 hg2 hS hbel h1' f1' hnb A L
      go_wp2
      have hM1 : (∃ k, 2 * m = 2 ^ k) ∧ 2 * m ≤ 4096 := by
        obtain ⟨ps, ⟨k, hk⟩, _⟩ := HH.out.filled hm
        have h12 : k < 12 := by
          rcases Nat.lt_or_ge k 12 with c | c
          · exact c
          · have := Nat.pow_le_pow_right (n := 2) (by omega) c; omega
        have := Nat.pow_le_pow_right (n := 2) (by omega) (show k + 1 ≤ 12 from h12)
        exact ⟨⟨k + 1, by rw [hk]; omega⟩, by omega⟩
      have HM1 : Hid ((∃ k, 2 * m = 2 ^ k) ∧ 2 * m ≤ 4096) := hM1
      have HGA : Hid (∀ g, a = some ⟨g, 0, none⟩ → g ≠ nb) := hga
      clear hM1 hga
      obtain ⟨l, hl⟩ : ∃ l : Nat, l = s.xs.length := ⟨_, rfl⟩
      rw [← hl]
      have HL : Hid (l = s.xs.length) := hl
      have hl4 : l ≤ 4096 := by have := HN.out; have := HM.out; omega
      clear hl
      obtain ⟨M, hMM⟩ : ∃ M, M = 2 * m := ⟨_, rfl⟩
      have HMM : Hid (M = 2 * m) := hMM
      rw [← hMM] at hst HM1 ⊢
      clear hMM
      go_loopw [28] (fun i wr => ∃ k : Nat, k ≤ l ∧ i = .int .i64 k ∧ Filling w b pb nb M t s a k wr) (fun i _ => l - (intOf i).toNat)
      case atStart => exact ⟨0, Nat.zero_le _, rfl, hst⟩
      case round =>
        clear hst h1'' f1''
        obtain ⟨k, hk, rfl, hF⟩ := hrel
        by_cases hlt : k < l
        · obtain ⟨g, rfl, g2, g3, g4⟩ := hF.src k (by have := HL.out; omega)
          have c1 : wr.cell? ⟨b, 1, none⟩ = some (.slice (some ⟨nb, 0, none⟩) M M) := by rw [cell_of hF.1]; rfl
          have c3 : wr.cell? ⟨b, 3, none⟩ = some (.int .u32 s.o) := by rw [cell_of hF.1]; rfl
          have hlk : k < s.xs.length := by have := HL.out; omega
          have hlM : s.xs.length < M := by have := HMM.out; have := HN.out; have := HM.out; omega
          have hM0 : 0 < M := by omega
          obtain ⟨q, hq⟩ : ∃ q, q = (s.o + k) % M := ⟨_, rfl⟩
          have hF2 := fun n => fill_step (hF.drewN n) hlk hlM hnb1 hbb.1 (HGA.out)
          obtain ⟨qs, c5, c6, c7⟩ := hF.2.1
          have c8 : q < M := by rw [hq]; exact Nat.mod_lt _ hM0
          have c9 : ∃ y, wr.cell? ⟨nb, q, none⟩ = some y := by rw [cell_of c5]; simp; rw [List.getElem?_eq_getElem (by omega)]; exact ⟨_, _, rfl, rfl⟩
          obtain ⟨y, c9⟩ := c9
          have c10 : wr.frozen? ⟨nb, q, none⟩ = false := frozen_of c5 _
          have P0 : Calls Try.prog 62 #[.pointer (some ⟨b, 0, none⟩), .int .u32 (((s.o : Int) + k) % 4294967296)] wr fun e w' => e = .returned (.pointer (some ⟨nb, q, none⟩)) ∧ ∃ n', w' = wr.drewN n' := by
            obtain ⟨⟨kk, hkk⟩, hkm⟩ := HM1.out
            have := place_any b nb M kk ((s.o + k) % 4294967296 : Nat) wr (by omega) (by omega) hkk hkm c1
            rw [toNat_mod, mod32 hkk hkm, ← hq] at this
            have e : (((s.o + k) % 4294967296 : Nat) : Int) = ((s.o : Int) + k) % 4294967296 := by omega
            rw [e] at this
            exact this
          rw [← hq] at hF2
          obtain ⟨x, hx⟩ : ∃ x, x = s.xs.getD k 0 := ⟨_, rfl⟩
          rw [← hx] at hF2 g4
          have hk4 : k < 4096 := by omega
          clear hx hq c5 c6 c7 hlM c8 hlk hF hM0
          go_wp2_with (go_at_call 62; refine P0.mono ?_; rintro e w' ⟨rfl, n2, rfl⟩)
          go_roundw
          case rel => exact ⟨k + 1, by omega, by go_num, hF2 _⟩
          case measure => simp [intOf]; omega
        · go_wp2
          obtain rfl : k = l := by omega
          refine bodyPost_end (results_none rfl _ _ _) rfl ⟨rfl, nb, M, ?_, ?_, by have := HB.out; omega, hF.2.2.1⟩
          · have h7 := HL.out
            subst h7
            exact fill_end hF HH.out.1 hla (by have := HMM.out; have := HN.out; have := HM.out; omega) HM1.out.1 HM1.out.2 (by have := HB.out; omega)
          · have := HMM.out; have := HN.out; have := HM.out; omega

end
end Go.Proofs.Ytihfekcdghmkhaa.RI
