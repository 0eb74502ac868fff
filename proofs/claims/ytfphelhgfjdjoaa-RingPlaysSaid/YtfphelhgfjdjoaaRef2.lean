/-
  The document's ring: its other calls.
-/
import Derived.Test.YtfphelhgfjdjoaaRef
namespace Go.Proofs.Ytfphelhgfjdjoaa
open Go.RowKit

section
variable {w : World} {c g : Nat} {s : RingSt} {lv : Int}

theorem ref_push (h : RefAt w c g s lv) (v : Int) :
    Calls Try.prog 31 #[.pointer (some ⟨c, 0, none⟩), .int .i64 v] w fun e w' => e = .returned (.int .i64 (layE s)) ∧ RStp c g w w' (pushS s v) := by
  cases hla : s.laid
  · by_cases hf : s.free = 0
    · have e1 : layE s = 7 := by simp [layE, hla, hf]
      have e2 : pushS s v = s := by simp [pushS, e1]
      refine (ref_push_full h hla hf v).mono ?_
      rintro e w' ⟨rfl, n, rfl⟩
      rw [e1, e2]
      exact ⟨rfl, RStp.ofDrew h n⟩
    · have e1 : layE s = 0 := by simp [layE, hla, hf]
      have e2 : pushS s v = (s.lay v).published := by simp [pushS, e1]
      refine (ref_push_ok h hla hf v).mono ?_
      rintro e w' ⟨rfl, h2⟩
      rw [e1, e2]
      exact ⟨rfl, h2⟩
  · have e1 : layE s = 13 := by simp [layE, hla]
    have e2 : pushS s v = s := by simp [pushS, e1]
    refine (ref_push_laid h hla v).mono ?_
    rintro e w' ⟨rfl, rfl⟩
    rw [e1, e2]
    exact ⟨rfl, RStp.ofSame h⟩

theorem at_ref_laid (h : RefAt w c g s lv) (hla : s.laid = false) (hlt : (s.xs.length : Int) < min (max s.room 1) 4096) (v : Int) :
    RStp c g w ((w.setCell ⟨c, 2, none⟩ (.bool true)).setCell ⟨c, 3, none⟩ (.int .i64 v)) (s.lay v) := by
  obtain ⟨ok, hl, hg, a, cap, t, ht, r1, r2, r3, r4⟩ := h
  refine ⟨g, v, ⟨⟨ok.hi, ok.ho, ok.hlen, ?_⟩, fun _ => rfl, by simpa using hg, a, cap, t, ?_, r1, r2, r3, ?_⟩, ((Fr.refl _ _ _).set0 _ _).set0 _ _, .inl rfl⟩
  · simp [RingSt.lay, one]; omega
  · rw [heap_set (c := #[.int .i64 (min (max s.room 1) 4096), .slice a s.xs.length cap, .bool true, .int .i64 lv, .int .u32 (s.i : Int), .int .u32 (s.o : Int)]) (t := t) (fr := (0, 0))]
    · simp [RingSt.lay]
    · rw [heap_set ht]; simp
  · exact r4.keep (by simp) (fun x hx _ => by rw [heap_set_ne _ (by exact hx.2), heap_set_ne _ (by exact hx.2)])

theorem ref_lay (h : RefAt w c g s lv) (v : Int) :
    Calls Try.prog 33 #[.pointer (some ⟨c, 0, none⟩), .int .i64 v] w fun e w' => e = .returned (.int .i64 (layE s)) ∧ RStp c g w w' (layS s v) := by
  have HH : Hid (RefAt w c g s lv) := h
  obtain ⟨ok, _, hg, a, cap, t, ht, r1, r2, r3, r4⟩ := h
  have h0 : w.cell? ⟨c, 0, none⟩ = some (.int .i64 (min (max s.room 1) 4096)) := by rw [cell_of ht]; rfl
  have h1 : w.cell? ⟨c, 1, none⟩ = some (.slice a s.xs.length cap) := by rw [cell_of ht]; rfl
  have h2 : w.cell? ⟨c, 2, none⟩ = some (.bool s.laid) := by rw [cell_of ht]; rfl
  have h3 : w.cell? ⟨c, 3, none⟩ = some (.int .i64 lv) := by rw [cell_of ht]; rfl
  have f2 := frozen_of ht 2
  have f3 := frozen_of ht 3
  have hcap := ok.hcap
  clear ht r4 ok hg r1 r2 r3
  cases hla : s.laid
  · rw [hla] at h2 hcap
    by_cases hf : s.free = 0
    · have e1 : layE s = 7 := by simp [layE, hla, hf]
      have e2 : layS s v = s := by simp [layS, e1]
      rw [e1, e2]
      rw [RingSt.free, hla] at hf
      simp only [one] at hf
      simp at hf
      have hge : min (max s.room 1) 4096 ≤ (s.xs.length : Int) := by omega
      clear hla hf e1 e2 hcap h3 f2 f3
      generalize min (max s.room 1) 4096 = sz at h0 hge
      generalize s.xs.length = n at h1 hge
      go_enter Try.func33, Try.ntmps33
      go_wp2
      go_quiet (fail)
      go_wp2
      go_ret
      exact ⟨rfl, RStp.ofDrew HH.out _⟩
    · have e1 : layE s = 0 := by simp [layE, hla, hf]
      have e2 : layS s v = s.lay v := by simp [layS, e1]
      rw [e1, e2]
      rw [RingSt.free, hla] at hf
      simp only [one] at hf hcap
      simp at hf hcap
      have hlt : (s.xs.length : Int) < min (max s.room 1) 4096 := by omega
      have hlt2 : ¬ min (max s.room 1) 4096 ≤ (s.xs.length : Int) := by omega
      have HLT : Hid ((s.xs.length : Int) < min (max s.room 1) 4096) := hlt
      have HLA : Hid (s.laid = false) := hla
      clear hla hf e1 e2 hcap hlt
      obtain ⟨sz, hsz⟩ : ∃ sz, sz = min (max s.room 1) 4096 := ⟨_, rfl⟩
      rw [← hsz] at h0 hlt2
      obtain ⟨n, hn⟩ : ∃ n, n = s.xs.length := ⟨_, rfl⟩
      rw [← hn] at h1 hlt2
      have hlt3 : (n : Int) < sz := by omega
      clear hsz hn
      go_enter Try.func33, Try.ntmps33
      go_wp2
      go_quiet (fail)
      go_wp2
      go_ret
      exact ⟨rfl, (by
        obtain ⟨p1, p2, p3, p4, p5⟩ := at_ref_laid (HH.out.drewN nq) HLA.out HLT.out v
        exact ⟨p1, p2, p3, ⟨p4.os, p4.tape, p4.output, p4.size, p4.block⟩, p5⟩)⟩
  · have e1 : layE s = 13 := by simp [layE, hla]
    have e2 : layS s v = s := by simp [layS, e1]
    rw [e1, e2]
    rw [hla] at h2
    clear hla e1 e2 hcap h0 h1 h3 f2 f3
    go_enter Try.func33, Try.ntmps33
    go_wp2
    go_ret
    exact ⟨rfl, RStp.ofSame HH.out⟩

theorem at_ref_unlaid (h : RefAt w c g s lv) (hla : s.laid = true) :
    RefAt (w.setCell ⟨c, 2, none⟩ (.bool false)) c g { s with laid := false } lv := by
  obtain ⟨ok, hl, hg, a, cap, t, ht, r1, r2, r3, r4⟩ := h
  have o4 := ok.hcap
  rw [hla] at o4
  refine ⟨⟨ok.hi, ok.ho, ok.hlen, ?_⟩, fun x => (by cases x), by simpa using hg, a, cap, t, ?_, r1, r2, r3, ?_⟩
  · simp [one] at o4 ⊢; omega
  · rw [heap_set ht]; simp
  · exact r4.keep (by simp) (fun x hx _ => by rw [heap_set_ne _ (by exact hx.2)])

theorem ref_publish (h : RefAt w c g s lv) :
    Calls Try.prog 34 #[.pointer (some ⟨c, 0, none⟩)] w fun e w' => e = .returned (.int .i64 (pubE s)) ∧ RStp c g w w' (pubS s) := by
  cases hla : s.laid
  · have HH : Hid (RefAt w c g s lv) := h
    obtain ⟨ok, _, hg, a, cap, t, ht, r1, r2, r3, r4⟩ := h
    have h2 : w.cell? ⟨c, 2, none⟩ = some (.bool false) := by rw [cell_of ht, hla]; rfl
    rw [show pubE s = 13 by simp [pubE, hla], show pubS s = s by simp [pubS, hla]]
    clear ht r4 ok hg r1 r2 r3 hla
    go_enter Try.func34, Try.ntmps34
    go_wp2
    go_ret
    exact ⟨rfl, RStp.ofSame HH.out⟩
  · have hU := at_ref_unlaid h hla
    have hlv := h.2.1 hla
    have ok := h.1
    have o4 := ok.hcap
    rw [hla] at o4
    have hf : ¬ ({ s with laid := false } : RingSt).free = 0 := by simp [RingSt.free, one] at o4 ⊢; omega
    have P := ref_push_ok hU rfl hf lv
    have he : (({ s with laid := false } : RingSt).lay lv).published = s.published := by rw [hlv]; rfl
    rw [he] at P
    rw [show pubE s = 0 by simp [pubE, hla], show pubS s = s.published by simp [pubS, hla]]
    obtain ⟨_, _, hg, a, cap, t, ht, r1, r2, r3, r4⟩ := h
    have h2 : w.cell? ⟨c, 2, none⟩ = some (.bool true) := by rw [cell_of ht, hla]; rfl
    have h3 : w.cell? ⟨c, 3, none⟩ = some (.int .i64 lv) := by rw [cell_of ht]; rfl
    have f2 := frozen_of ht 2
    clear ht r4 ok r1 r2 r3 hla hU hf o4 he hlv hg
    go_enter Try.func34, Try.ntmps34
    go_wp2_with fail
    go_at_call 31
    refine P.mono ?_
    rintro e w' ⟨rfl, g', lv', hR, hF, hg'⟩
    have hS : RStp c g w w' s.published := ⟨g', lv', hR, (((Fr.refl c c w).set0 2 _).trans hF (.inl rfl)), by simpa using hg'⟩
    clear hR hF hg' P
    go_wp2
    go_ret
    exact ⟨rfl, hS⟩

theorem ref_room (h : RefAt w c g s lv) :
    Calls Try.prog 20 #[.pointer (some ⟨c, 0, none⟩)] w fun e w' => e = .returned (.int .i64 s.free) ∧ ∃ n, w' = w.drewN n := by
  obtain ⟨ok, _, hg, a, cap, t, ht, r1, r2, r3, r4⟩ := h
  have h0 : w.cell? ⟨c, 0, none⟩ = some (.int .i64 (min (max s.room 1) 4096)) := by rw [cell_of ht]; rfl
  have h1 : w.cell? ⟨c, 1, none⟩ = some (.slice a s.xs.length cap) := by rw [cell_of ht]; rfl
  have h2 : w.cell? ⟨c, 2, none⟩ = some (.bool s.laid) := by rw [cell_of ht]; rfl
  have b1 : 1 ≤ min (max s.room 1) 4096 := by omega
  have b2 : min (max s.room 1) 4096 ≤ 4096 := by omega
  have b3 : (s.xs.length : Int) ≤ 4096 := by have := ok.hcap; omega
  rw [RingSt.free]
  clear ht r4 ok r1 r2 r3 hg
  generalize min (max s.room 1) 4096 = sz at *
  generalize s.xs.length = n at *
  cases hla : s.laid
  all_goals
    rw [hla] at h2
    clear hla
    go_enter Try.func20, Try.ntmps20
    go_wp2
    go_quiet (fail)
    go_wp2
    go_ret
    refine ⟨ret_int (by simp [one] <;> omega), _, rfl⟩

theorem ref_peek (h : RefAt w c g s lv) :
    Calls Try.prog 35 #[.pointer (some ⟨c, 0, none⟩)] w fun e w' => e = .returned (.tuple #[.int .i64 (peekV s), .int .i64 (peekE s)]) ∧ ∃ n, w' = w.drewN n := by
  obtain ⟨ok, _, hg, a, cap, t, ht, r1, r2, r3, r4⟩ := h
  have h1 : w.cell? ⟨c, 1, none⟩ = some (.slice a s.xs.length cap) := by rw [cell_of ht]; rfl
  cases hx : s.xs with
  | nil =>
    rw [show peekV s = 0 by simp [peekV, hx], show peekE s = 8 by simp [peekE, hx]]
    rw [hx] at h1
    have h1' : w.cell? ⟨c, 1, none⟩ = some (.slice a 0 cap) := h1
    clear ht r4 ok r1 r2 r3 hg hx h1
    go_enter Try.func35, Try.ntmps35
    go_wp2
    go_ret2
    exact ⟨rfl, 0, rfl⟩
  | cons x r =>
    rw [show peekV s = x by simp [peekV, hx], show peekE s = 0 by simp [peekE, hx]]
    obtain ⟨g1, off, rfl, hgg, _, y0⟩ := r4 0 (by rw [hx]; simp)
    clear hgg
    have y0' : w.cell? ⟨g1, off, none⟩ = some (.int .i64 x) := by rw [hx] at y0; simpa using y0
    rw [hx] at h1
    have h1' : w.cell? ⟨c, 1, none⟩ = some (.slice (some ⟨g1, off, none⟩) (r.length + 1) cap) := h1
    obtain ⟨n, hn⟩ : ∃ n, n = r.length + 1 := ⟨_, rfl⟩
    rw [← hn] at h1'
    have hn0 : 0 < n := by omega
    have hn1 : (0 : Int) < n := by omega
    have hn2 : ((n : Int) == 0) = false := by simp; omega
    clear ht r4 ok r1 r2 r3 hg hx h1 y0 hn
    go_enter Try.func35, Try.ntmps35
    go_wp2
    go_ret2
    exact ⟨rfl, 0, rfl⟩

/-- .. and its list lies where it lay. -/
def RStp0 (c g : Nat) (w w' : World) (s' : RingSt) : Prop := ∃ lv', RefAt w' c g s' lv' ∧ Fr c c w w'
theorem RStp0.to {c g : Nat} {w w' : World} {s' : RingSt} (h : RStp0 c g w w' s') : RStp c g w w' s' := by
  obtain ⟨lv', h1, h2⟩ := h
  exact ⟨g, lv', h1, h2, .inl rfl⟩

theorem at_ref_freed (h : RefAt w c g s lv) {x : Int} {r : List Int} (hx : s.xs = x :: r) (a' : Option Addr) (cap' : Nat) (h1 : r.length ≤ cap') (h2 : cap' ≤ maxLen) (h3 : a' ≠ none) (hr : Rd w a' r (fun x => x = g ∧ x ≠ c)) :
    RStp0 c g w ((w.setCell ⟨c, 1, none⟩ (.slice a' r.length cap')).setCell ⟨c, 5, none⟩ (.int .u32 (((s.o : Int) + 1) % 4294967296))) s.freed := by
  obtain ⟨ok, hl, hg, a, cap, t, ht, r1, r2, r3, r4⟩ := h
  obtain ⟨o1, o2, o3, o4⟩ := ok
  rw [hx] at o3 o4
  simp only [List.length_cons] at o3 o4
  have hxs : s.freed.xs = r := by simp [RingSt.freed, hx]
  refine ⟨lv, ⟨⟨o1, ?_, ?_, ?_⟩, hl, by simpa using hg, a', cap', t, ?_, by rw [hxs]; exact h1, h2, fun e => absurd e h3, ?_⟩, ((Fr.refl _ _ _).set0 _ _).set0 _ _⟩
  · simp [RingSt.freed]; omega
  · rw [hxs]; simp [RingSt.freed]; omega
  · rw [hxs]; simp [RingSt.freed]; omega
  · rw [hxs, heap_set (c := #[.int .i64 (min (max s.room 1) 4096), .slice a' r.length cap', .bool s.laid, .int .i64 lv, .int .u32 (s.i : Int), .int .u32 (s.o : Int)]) (t := t) (fr := (0, 0))]
    · simp [RingSt.freed]
    · rw [heap_set ht]; simp
  · rw [hxs]
    exact hr.keep (by simp) (fun x hx _ => by rw [heap_set_ne _ (by exact hx.2), heap_set_ne _ (by exact hx.2)])

theorem ref_pop (h : RefAt w c g s lv) :
    Calls Try.prog 32 #[.pointer (some ⟨c, 0, none⟩)] w fun e w' => e = .returned (.tuple #[.int .i64 (peekV s), .int .i64 (peekE s)]) ∧ RStp0 c g w w' (freeS s) := by
  have HH : Hid (RefAt w c g s lv) := h
  obtain ⟨ok, _, hg, a, cap, t, ht, r1, r2, r3, r4⟩ := h
  have h1 : w.cell? ⟨c, 1, none⟩ = some (.slice a s.xs.length cap) := by rw [cell_of ht]; rfl
  have h5 : w.cell? ⟨c, 5, none⟩ = some (.int .u32 s.o) := by rw [cell_of ht]; rfl
  have f1 := frozen_of ht 1
  have f5 := frozen_of ht 5
  cases hx : s.xs with
  | nil =>
    rw [show peekV s = 0 by simp [peekV, hx], show peekE s = 8 by simp [peekE, hx], show freeS s = s by simp [freeS, hx]]
    rw [hx] at h1
    have h1' : w.cell? ⟨c, 1, none⟩ = some (.slice a 0 cap) := h1
    clear ht r4 ok r1 r2 r3 hg hx h1
    go_enter Try.func32, Try.ntmps32
    go_wp2
    go_ret2
    exact ⟨rfl, lv, HH.out, Fr.refl _ _ _⟩
  | cons x r =>
    rw [show peekV s = x by simp [peekV, hx], show peekE s = 0 by simp [peekE, hx], show freeS s = s.freed by simp [freeS, hx]]
    obtain ⟨g1, off, rfl, hgg, _, y0⟩ := r4 0 (by rw [hx]; simp)
    have hgc : g1 ≠ c := hgg.2
    clear hgg
    have y0' : w.cell? ⟨g1, off, none⟩ = some (.int .i64 x) := by rw [hx] at y0; simpa using y0
    have hrl : r.length + 1 ≤ cap := by rw [hx] at r1; exact r1
    have hcm := r2
    unfold maxLen at hcm
    have hRr : Rd w (some ⟨g1, off + 1, none⟩) r (fun x => x = g ∧ x ≠ c) := fun j hj => by
      obtain ⟨g2, off2, e1, e2, e3, e4⟩ := r4 (j + 1) (by rw [hx]; simp; omega)
      simp only [Option.some.injEq, Addr.mk.injEq, and_true] at e1
      obtain ⟨rfl, rfl⟩ := e1
      exact ⟨g1, off + 1, rfl, e2, e3, by rw [show off + 1 + j = off + (j + 1) by omega, e4, hx]; simp⟩
    have hA := at_ref_freed HH.out hx (some ⟨g1, off + 1, none⟩) (cap - 1) (by omega) (by omega) (by simp) hRr
    have hA0 : cap = 1 → RStp0 c g w ((w.setCell ⟨c, 1, none⟩ (.slice (some ⟨g1, off, none⟩) r.length (cap - 1))).setCell ⟨c, 5, none⟩ (.int .u32 (((s.o : Int) + 1) % 4294967296))) s.freed := fun hc =>
      at_ref_freed HH.out hx (some ⟨g1, off, none⟩) (cap - 1) (by omega) (by omega) (by simp) (fun j hj => by omega)
    rw [hx] at h1
    have h1' : w.cell? ⟨c, 1, none⟩ = some (.slice (some ⟨g1, off, none⟩) (r.length + 1) cap) := h1
    obtain ⟨n, hn⟩ : ∃ n, n = r.length + 1 := ⟨_, rfl⟩
    have hrn : r.length = n - 1 := by omega
    rw [hrn] at hA hA0
    rw [← hn] at h1'
    have hn0 : 0 < n := by omega
    have hn1 : (0 : Int) < n := by omega
    have hn2 : ((n : Int) == 0) = false := by simp; omega
    have hn3 : (1 : Int) ≤ n := by omega
    have hcl : (1 : Int) ≤ cap := by omega
    have hkc : (n : Int) ≤ cap := by omega
    have hkn : n ≤ cap := by omega
    have HA := Lib.hid hA
    have HA0 := Lib.hid hA0
    clear ht r4 ok r1 r2 r3 hg hx h1 y0 hRr hA hA0 hcm hn hrn hrl
    rcases (by omega : cap = 1 ∨ ¬ cap = 1) with hc1 | hc1
    · subst hc1
      obtain rfl : n = 1 := by omega
      go_enter Try.func32, Try.ntmps32
      go_wp2
      go_ret2
      exact ⟨rfl, HA0.out trivial⟩
    · go_enter Try.func32, Try.ntmps32
      go_wp2
      go_ret2
      exact ⟨rfl, HA.out⟩

theorem ref_new (room : Int) (i : Nat) (w : World) (hi : i < 4294967296) :
    Calls Try.prog 12 #[.int .i64 room, .int .u32 i] w fun e w' => e = .returned (.pointer (some ⟨w.heap.size, 0, none⟩)) ∧ RefAt w' w.heap.size w.heap.size ⟨room, i, i, false, 0, []⟩ 0 ∧ Below w.heap.size w w' := by
  go_enter Try.func12, Try.ntmps12
  go_wp2
  all_goals go_ret
  all_goals refine ⟨rfl, ⟨⟨hi, hi, by simp; omega, by simp [one]; omega⟩, fun x => (by cases x), by simp, none, 0, 41, ?_, Nat.le_refl _, by simp [maxLen], fun _ => rfl, fun j hj => absurd hj (Nat.not_lt_zero j)⟩, (Below.refl _ _).alloc (Nat.le_refl _) _⟩
  all_goals
    show (w.heap.push _)[w.heap.size]? = _
    rw [Array.getElem?_push_size]
    congr 4
    congr 1
    show _ = min (max room 1) 4096
    omega

end
end Go.Proofs.Ytfphelhgfjdjoaa
