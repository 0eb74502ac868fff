/-
  Lay, Push, Pop over a ring.
-/
import Derived.Test.YtihfekcdghmkhaaRiWiden
namespace Go.Proofs.Ytihfekcdghmkhaa.RI
open Go.RowKit

/-- The ring at b is s' now; only its own blocks have turned. -/
def Stp (b pb : Nat) (w w' : World) (s' : RingSt) : Prop := ∃ pb' m', RingAt w' b pb' m' s' ∧ Fr b pb w w' ∧ (pb' = pb ∨ w.heap.size ≤ pb')

theorem Stp.drewN {b pb : Nat} {w w' : World} {s' : RingSt} (h : Stp b pb w w' s') (n : Nat) : Stp b pb w (w'.drewN n) s' := by
  obtain ⟨p, m, h1, h2, h3⟩ := h
  exact ⟨p, m, h1, h2.drewN n, h3⟩

section
variable {w : World} {b pb m : Nat} {s : RingSt}

theorem Stp.ofDrew (h : RingAt w b pb m s) (n : Nat) : Stp b pb w (w.drewN n) s := ⟨pb, m, h, (Fr.refl _ _ _).drewN n, Or.inl rfl⟩
theorem Stp.ofSame (h : RingAt w b pb m s) : Stp b pb w w s := ⟨pb, m, h, Fr.refl _ _ _, Or.inl rfl⟩

/-- widen: there is a place more. -/
theorem ring_widen (h : RingAt w b pb m s) (hla : s.laid = false) (hlt : (s.xs.length : Int) < min (max s.room 1) 4096) :
    Calls Try.prog 61 #[.pointer (some ⟨b, 0, none⟩)] w fun e w' => e = .returned (.tuple #[]) ∧ ∃ nb M, RingAt w' b nb M s ∧ s.xs.length < M ∧ (nb = pb ∨ w.heap.size ≤ nb) ∧ Fr b pb w w' := by
  rcases Nat.lt_or_ge s.xs.length m with c | c
  · refine (widen_no h c).mono ?_
    rintro e w' ⟨rfl, n, rfl⟩
    exact ⟨rfl, pb, m, h, c, Or.inl rfl, (Fr.refl _ _ _).drewN n⟩
  · refine (widen_yes h c hla hlt).mono ?_
    rintro e w' ⟨rfl, nb, M, h1, h2, h3, h4⟩
    exact ⟨rfl, nb, M, h1, h2, Or.inr h3, h4⟩

theorem lay_laid (h : RingAt w b pb m s) (hla : s.laid = true) (v : Int) :
    Calls Try.prog 52 #[.pointer (some ⟨b, 0, none⟩), .int .i64 v] w fun e w' => e = .returned (.int .i64 13) ∧ w = w' := by
  have h4 : w.cell? ⟨b, 4, none⟩ = some (.bool true) := by obtain ⟨_, ⟨t, ht⟩, _⟩ := h; rw [cell_of ht, hla]; rfl
  clear h hla
  go_enter Try.func52, Try.ntmps52
  go_wp2
  go_ret
  exact ⟨rfl, rfl⟩

theorem lay_full (h : RingAt w b pb m s) (hla : s.laid = false) (hf : s.free = 0) (v : Int) :
    Calls Try.prog 52 #[.pointer (some ⟨b, 0, none⟩), .int .i64 v] w fun e w' => e = .returned (.int .i64 7) ∧ ∃ n, w' = w.drewN n := by
  have h4 : w.cell? ⟨b, 4, none⟩ = some (.bool false) := by obtain ⟨_, ⟨t, ht⟩, _⟩ := h; rw [cell_of ht, hla]; rfl
  have R := ring_room h
  rw [hf] at R
  clear h hla hf
  go_enter Try.func52, Try.ntmps52
  go_wp2_with (go_at_call 60; refine R.mono ?_; rintro e w' ⟨rfl, n, rfl⟩)
  go_ret
  exact ⟨rfl, _, rfl⟩

def RingSt.lay (s : RingSt) (v : Int) : RingSt := { s with laid := true, lv := v }

theorem at_laid (h : RingAt w b pb m s) (_hla : s.laid = false) (hlt : (s.xs.length : Int) < min (max s.room 1) 4096) (hm : s.xs.length < m) (v : Int) :
    RingAt ((w.setCell ⟨pb, s.i % m, none⟩ (.int .i64 v)).setCell ⟨b, 4, none⟩ (.bool true)) b pb m (s.lay v) := by
  obtain ⟨ps, ⟨k, hk⟩, hm2, hne, hp, hpl, hcap, hxs, hlv⟩ := h.filled (by omega)
  obtain ⟨ok, ⟨t, ht⟩, h3⟩ := h
  obtain ⟨o1, o2, o3, o4⟩ := ok
  refine ⟨⟨o1, o2, o3, ?_⟩, ⟨t, ?_⟩, Or.inr ⟨ps.set (s.i % m) v, ⟨k, hk⟩, hm2, hne, ?_, by simpa using hpl, ?_, ?_, ?_⟩⟩
  · simp [RingSt.lay, one]; omega
  · rw [heap_set (c := #[.int .i64 s.room, pval pb m, .int .u32 (s.i : Int), .int .u32 (s.o : Int), .bool s.laid]) (by rw [heap_set_ne _ (by simpa using hne.symm)]; exact ht)]
    simp [RingSt.lay]
  · rw [heap_set_ne _ hne, heap_set hp]; simp [List.map_set]
  · simp [RingSt.lay, one]; omega
  · intro j hj
    have hj' : j < s.xs.length := hj
    show (ps.set (s.i % m) v)[(s.o + j) % m]? = s.xs[j]?
    rw [List.getElem?_set_ne]
    · exact hxs j hj'
    · intro d
      rw [← o3, mod32 hk hm2] at d
      have := dist (m := m) (o := s.o) (j := s.xs.length) (j' := j) hm (by omega) d
      omega
  · intro _
    show (ps.set (s.i % m) v)[s.i % m]? = some v
    rw [List.getElem?_set_self]
    rw [hpl]; exact Nat.mod_lt _ (by omega)

set_option maxHeartbeats 400000 in
theorem lay_ok (h : RingAt w b pb m s) (hla : s.laid = false) (hlt : (s.xs.length : Int) < min (max s.room 1) 4096) (v : Int) :
    Calls Try.prog 52 #[.pointer (some ⟨b, 0, none⟩), .int .i64 v] w fun e w' => e = .returned (.int .i64 0) ∧ Stp b pb w w' (s.lay v) := by
  have h4 : w.cell? ⟨b, 4, none⟩ = some (.bool false) := by obtain ⟨_, ⟨t, ht⟩, _⟩ := h; rw [cell_of ht, hla]; rfl
  have R := ring_room h
  have hfr : ¬ s.free = 0 := by rw [RingSt.free, hla, one]; simp; omega
  have W := fun n => ring_widen (h.drewN n) hla hlt
  obtain ⟨f, hf⟩ : ∃ f, f = s.free := ⟨_, rfl⟩
  rw [← hf] at R hfr
  have hfr2 : (f == 0) = false := by simpa using hfr
  have HLA : Hid (s.laid = false) := hla
  clear h hla hf hfr
  go_enter Try.func52, Try.ntmps52
  go_wp2_with (first
    | (go_at_call 60; refine R.mono ?_; rintro e w' ⟨rfl, n, rfl⟩))
  go_at_call 61
  refine (W _).mono ?_
  rintro e w1 ⟨rfl, nb, M, hR, hM, hnb, hF⟩
  obtain ⟨ps, hFi⟩ := hR.filled (by omega)
  have c2 : w1.cell? ⟨b, 2, none⟩ = some (.int .u32 s.i) := by obtain ⟨_, ⟨t, ht⟩, _⟩ := hR; rw [cell_of ht]; rfl
  have c4 : w1.cell? ⟨b, 4, none⟩ = some (.bool false) := by obtain ⟨_, ⟨t, ht⟩, _⟩ := hR; rw [cell_of ht, HLA.out]; rfl
  have f4 : w1.frozen? ⟨b, 4, none⟩ = false := by obtain ⟨_, ⟨t, ht⟩, _⟩ := hR; exact frozen_of ht 4
  have P := ring_place hR (by omega) s.i hR.1.hi
  have hA := fun n => at_laid (hR.drewN n) HLA.out hlt hM v
  have hq : s.i % M < M := Nat.mod_lt _ (by omega)
  obtain ⟨q, hqq⟩ : ∃ q, q = s.i % M := ⟨_, rfl⟩
  rw [← hqq] at hA P hq
  have fq : w1.frozen? ⟨nb, q, none⟩ = false := frozen_of hFi.2.2.2.1 q
  obtain ⟨y, cq⟩ : ∃ y, w1.cell? ⟨nb, q, none⟩ = some y := by rw [cell_of hFi.2.2.2.1]; simp; rw [List.getElem?_eq_getElem (by have := hFi.2.2.2.2.1; omega)]; exact ⟨_, _, rfl, rfl⟩
  have hne : nb ≠ b := hFi.2.2.1
  have HNB : Hid (nb = pb ∨ w.heap.size ≤ nb) := hnb
  clear W R hFi hR hqq hnb
  go_wp2_with (go_at_call 62; refine P.mono ?_; rintro e w' ⟨rfl, n2, rfl⟩)
  go_ret
  refine ⟨rfl, nb, M, hA _, ?_, HNB.out⟩
  have hF2 : Fr b pb w w1 := ⟨hF.os, hF.tape, hF.output, hF.size, hF.block⟩
  exact ((hF2.drewN n2).setCell (by have := HNB.out; exact Or.inr this) _).set0 _ _

end
end Go.Proofs.Ytihfekcdghmkhaa.RI
