/-
  Peek, Publish, Free over a ring.
-/
import Derived.Test.YtihfekcdghmkhaaRiRep
namespace Go.Proofs.Ytihfekcdghmkhaa.RI
open Go.RowKit

theorem pow_dvd {m k : Nat} (hk : m = 2 ^ k) (hm : m ≤ 4096) : m ∣ 4294967296 := by
  have : k ≤ 32 := by
    rcases Nat.lt_or_ge 32 k with h | h
    · have := Nat.pow_le_pow_right (n := 2) (by omega) h; omega
    · exact h
  rw [hk, show 4294967296 = 2 ^ 32 from rfl]
  exact Nat.pow_dvd_pow 2 this

theorem mod32 {m k : Nat} (hk : m = 2 ^ k) (hm : m ≤ 4096) (c : Nat) : c % 4294967296 % m = c % m := Nat.mod_mod_of_dvd c (pow_dvd hk hm)

theorem dist {m o j j' : Nat} (h1 : j < m) (h2 : j' < m) (h : (o + j) % m = (o + j') % m) : j = j' := by
  rcases Nat.lt_or_ge j j' with g | g
  · have h3 := Nat.sub_mod_eq_zero_of_mod_eq h.symm
    rw [show o + j' - (o + j) = j' - j by omega, Nat.mod_eq_of_lt (by omega)] at h3
    omega
  · have h3 := Nat.sub_mod_eq_zero_of_mod_eq h
    rw [show o + j - (o + j') = j - j' by omega, Nat.mod_eq_of_lt (by omega)] at h3
    omega

theorem toNat_mod (c m : Nat) : (((c : Nat) : Int) % (m : Int)).toNat = c % m := rfl

section
variable {w : World} {b pb m : Nat} {s : RingSt}

theorem ring_place (h : RingAt w b pb m s) (hm : 0 < m) (c : Nat) (hc : c < 4294967296) :
    Calls Try.prog 62 #[.pointer (some ⟨b, 0, none⟩), .int .u32 c] w fun e w' => e = .returned (.pointer (some ⟨pb, c % m, none⟩)) ∧ ∃ n, w' = w.drewN n := by
  obtain ⟨ok, ⟨t, ht⟩, h3⟩ := h
  rcases h3 with h3 | ⟨ps, ⟨k, hk⟩, hm2, _⟩
  · omega
  · have := place_any b pb m k c w (by omega) (by omega) hk hm2 (by rw [cell_of ht, pval_pos hm]; rfl)
    rw [toNat_mod] at this
    exact this

theorem RingAt.pos (h : RingAt w b pb m s) (hx : s.xs ≠ [] ∨ s.laid = true) : 0 < m := by
  obtain ⟨ok, ⟨t, ht⟩, h3⟩ := h
  rcases h3 with ⟨_, _, h1, h2⟩ | ⟨ps, ⟨k, hk⟩, hm2, _⟩
  · rcases hx with hx | hx
    · exact absurd h1 hx
    · rw [h2] at hx; cases hx
  · rw [hk]; exact Nat.two_pow_pos k

theorem RingAt.filled (h : RingAt w b pb m s) (hm : 0 < m) : ∃ ps, Filled w b pb m s ps := by
  obtain ⟨ok, ⟨t, ht⟩, h3⟩ := h
  rcases h3 with h3 | h3
  · omega
  · exact h3

theorem Filled.cell {ps : List Int} (h : Filled w b pb m s ps) {q : Nat} {v : Int} (e : ps[q]? = some v) : w.cell? ⟨pb, q, none⟩ = some (.int .i64 v) := by
  obtain ⟨_, _, _, hp, _⟩ := h
  rw [cell_of hp]; simp [e]

theorem ring_peek_some (h : RingAt w b pb m s) {x : Int} {r : List Int} (hx : s.xs = x :: r) :
    Calls Try.prog 54 #[.pointer (some ⟨b, 0, none⟩)] w fun e w' => e = .returned (.tuple #[.int .i64 x, .int .i64 0]) ∧ ∃ n, w' = w.drewN n := by
  have hm := h.pos (Or.inl (by rw [hx]; simp))
  obtain ⟨ps, hf⟩ := h.filled hm
  have hc : w.cell? ⟨pb, s.o % m, none⟩ = some (.int .i64 x) := hf.cell (by have := hf.2.2.2.2.2.2.1 0 (by rw [hx]; simp); rw [hx] at this; simpa using this)
  have L := ring_len h
  have P := fun n => ring_place (h.drewN n) hm s.o h.1.ho
  have hl : ((s.xs.length : Int) == 0) = false := by rw [hx]; simp; omega
  have h3 : w.cell? ⟨b, 3, none⟩ = some (.int .u32 s.o) := by obtain ⟨_, ⟨t, ht⟩, _⟩ := h; rw [cell_of ht]; rfl
  clear hx hm hf h
  generalize s.o % m = q at *
  generalize (s.o : Int) = o at *
  generalize (s.xs.length : Int) = l at *
  go_enter Try.func54, Try.ntmps54
  go_wp2_with (first
      | (go_at_call 46; refine L.mono ?_; rintro e w' ⟨rfl, n, rfl⟩)
      | (go_at_call 62; refine (P _).mono ?_; rintro e w' ⟨rfl, n2, rfl⟩))
  go_ret2
  exact ⟨rfl, _, rfl⟩

theorem ring_peek_none (h : RingAt w b pb m s) (hx : s.xs = []) :
    Calls Try.prog 54 #[.pointer (some ⟨b, 0, none⟩)] w fun e w' => e = .returned (.tuple #[.int .i64 0, .int .i64 8]) ∧ ∃ n, w' = w.drewN n := by
  have L := ring_len h
  rw [hx] at L
  clear hx h
  go_enter Try.func54, Try.ntmps54
  go_wp2_with (first
      | (go_at_call 46; refine L.mono ?_; rintro e w' ⟨rfl, n, rfl⟩))
  go_ret2
  exact ⟨rfl, _, rfl⟩

theorem ring_publish_none (h : RingAt w b pb m s) (hx : s.laid = false) :
    Calls Try.prog 53 #[.pointer (some ⟨b, 0, none⟩)] w fun e w' => e = .returned (.int .i64 13) ∧ w = w' := by
  have h4 : w.cell? ⟨b, 4, none⟩ = some (.bool false) := by obtain ⟨_, ⟨t, ht⟩, _⟩ := h; rw [cell_of ht, hx]; rfl
  clear hx h
  go_enter Try.func53, Try.ntmps53
  go_wp2
  go_ret
  exact ⟨rfl, rfl⟩

def RingSt.published (s : RingSt) : RingSt := { s with i := (s.i + 1) % 4294967296, laid := false, xs := s.xs ++ [s.lv] }

theorem at_published (h : RingAt w b pb m s) (hx : s.laid = true) : RingAt ((w.setCell ⟨b, 4, none⟩ (.bool false)).setCell ⟨b, 2, none⟩ (.int .u32 (((s.i : Int) + 1) % 4294967296))) b pb m s.published := by
  have hm := h.pos (Or.inr hx)
  obtain ⟨ps, ⟨k, hk⟩, hm2, hne, hp, hpl, hcap, hxs, hlv⟩ := h.filled hm
  obtain ⟨ok, ⟨t, ht⟩, h3⟩ := h
  obtain ⟨o1, o2, o3, o4⟩ := ok
  simp only [one, hx, if_true] at o4 hcap
  refine ⟨⟨?_, o2, ?_, ?_⟩, ⟨t, ?_⟩, Or.inr ⟨ps, ⟨k, hk⟩, hm2, hne, ?_, hpl, ?_, ?_, ?_⟩⟩
  · simp [RingSt.published]; omega
  · simp [RingSt.published]; omega
  · simp [RingSt.published, one]; omega
  · rw [heap_set (heap_set ht 4 _) 2 _]
    simp [RingSt.published]
  · rw [heap_set_ne _ hne, heap_set_ne _ hne, hp]
  · simp [RingSt.published, one]; omega
  · intro j hj
    simp only [RingSt.published, List.length_append, List.length_singleton] at hj ⊢
    rcases Nat.lt_or_ge j s.xs.length with g | g
    · rw [List.getElem?_append_left g]; exact hxs j g
    · have e : j = s.xs.length := by omega
      subst e
      rw [← mod32 hk hm2, o3, hlv hx]; simp
  · intro c; simp [RingSt.published] at c

theorem ring_publish_some (h : RingAt w b pb m s) (hx : s.laid = true) :
    Calls Try.prog 53 #[.pointer (some ⟨b, 0, none⟩)] w fun e w' => e = .returned (.int .i64 0) ∧ RingAt w' b pb m s.published ∧ Fr b pb w w' := by
  have hA := at_published h hx
  obtain ⟨_, ⟨t, ht⟩, _⟩ := h
  have h4 : w.cell? ⟨b, 4, none⟩ = some (.bool true) := by rw [cell_of ht, hx]; rfl
  have h2 : w.cell? ⟨b, 2, none⟩ = some (.int .u32 s.i) := by rw [cell_of ht]; rfl
  have f2 := frozen_of ht 2
  have f4 := frozen_of ht 4
  clear ht hx
  go_enter Try.func53, Try.ntmps53
  go_wp2
  go_ret
  exact ⟨rfl, hA, ((Fr.refl _ _ _).set0 _ _).set0 _ _⟩

theorem ring_free_none (h : RingAt w b pb m s) (hx : s.xs = []) :
    Calls Try.prog 55 #[.pointer (some ⟨b, 0, none⟩)] w fun e w' => e = .returned (.int .i64 8) ∧ ∃ n, w' = w.drewN n := by
  have L := ring_len h
  rw [hx] at L
  clear hx h
  go_enter Try.func55, Try.ntmps55
  go_wp2_with (first
      | (go_at_call 46; refine L.mono ?_; rintro e w' ⟨rfl, n, rfl⟩))
  go_ret
  exact ⟨rfl, _, rfl⟩

def RingSt.freed (s : RingSt) : RingSt := { s with o := (s.o + 1) % 4294967296, xs := s.xs.tail }

theorem at_freed (h : RingAt w b pb m s) {x : Int} {r : List Int} (hx : s.xs = x :: r) :
    RingAt ((w.setCell ⟨pb, s.o % m, none⟩ (.int .i64 0)).setCell ⟨b, 3, none⟩ (.int .u32 (((s.o : Int) + 1) % 4294967296))) b pb m s.freed := by
  have hm := h.pos (Or.inl (by rw [hx]; simp))
  obtain ⟨ps, ⟨k, hk⟩, hm2, hne, hp, hpl, hcap, hxs, hlv⟩ := h.filled hm
  obtain ⟨ok, ⟨t, ht⟩, h3⟩ := h
  obtain ⟨o1, o2, o3, o4⟩ := ok
  rw [hx] at o3 o4 hcap hxs
  simp only [List.length_cons] at o3 o4 hcap hxs
  refine ⟨⟨o1, ?_, ?_, ?_⟩, ⟨t, ?_⟩, Or.inr ⟨ps.set (s.o % m) 0, ⟨k, hk⟩, hm2, hne, ?_, by simpa using hpl, ?_, ?_, ?_⟩⟩
  · simp [RingSt.freed]; omega
  · simp [RingSt.freed, hx]; omega
  · simp [RingSt.freed, hx]; omega
  · rw [heap_set (c := #[.int .i64 s.room, pval pb m, .int .u32 (s.i : Int), .int .u32 (s.o : Int), .bool s.laid]) (by rw [heap_set_ne _ (by simpa using hne.symm)]; exact ht)]
    simp [RingSt.freed]
  · rw [heap_set_ne _ hne, heap_set hp]
    simp [List.map_set]
  · simp [RingSt.freed, hx]; omega
  · intro j hj
    simp only [RingSt.freed, hx, List.tail_cons] at hj ⊢
    have e : ((s.o + 1) % 4294967296 + j) % m = (s.o + (j + 1)) % m := by
      rw [Nat.add_mod, mod32 hk hm2, ← Nat.add_mod]; congr 1; omega
    have e2 := hxs (j + 1) (by omega)
    rw [e, List.getElem?_set_ne, e2]
    · simp
    · intro c
      have := dist (m := m) (o := s.o) (j := 0) (j' := j + 1) hm (by omega) (by simpa using c)
      omega
  · intro c
    have c' : s.laid = true := c
    simp only [one, c', if_true] at hcap
    rw [List.getElem?_set_ne]
    · exact hlv c'
    · intro d
      have e : s.i % m = (s.o + (r.length + 1)) % m := by rw [← o3, mod32 hk hm2]
      have d' : s.o % m = s.i % m := d
      rw [e] at d'
      have := dist (m := m) (o := s.o) (j := 0) (j' := r.length + 1) hm (by omega) (by simpa using d')
      omega

theorem ring_free_some (h : RingAt w b pb m s) {x : Int} {r : List Int} (hx : s.xs = x :: r) :
    Calls Try.prog 55 #[.pointer (some ⟨b, 0, none⟩)] w fun e w' => e = .returned (.int .i64 0) ∧ RingAt w' b pb m s.freed ∧ Fr b pb w w' := by
  have hA := fun n => at_freed (h.drewN n) hx
  have hm := h.pos (Or.inl (by rw [hx]; simp))
  obtain ⟨ps, hf⟩ := h.filled hm
  have hfr : w.frozen? ⟨pb, s.o % m, none⟩ = false := frozen_of hf.2.2.2.1 _
  have hc : w.cell? ⟨pb, s.o % m, none⟩ = some (.int .i64 x) := hf.cell (by have := hf.2.2.2.2.2.2.1 0 (by rw [hx]; simp); rw [hx] at this; simpa using this)
  have L := ring_len h
  have P := fun n => ring_place (h.drewN n) hm s.o h.1.ho
  have hl : ((s.xs.length : Int) == 0) = false := by rw [hx]; simp; omega
  obtain ⟨_, ⟨t, ht⟩, _⟩ := h
  have h3 : w.cell? ⟨b, 3, none⟩ = some (.int .u32 s.o) := by rw [cell_of ht]; rfl
  have f3 := frozen_of ht 3
  have hne := hf.2.2.1
  clear hm hf ht hx
  have hl' : Hid (((s.xs.length : Int) == 0) = false) := hl
  clear hl
  obtain ⟨l, hl2⟩ : ∃ l : Int, l = s.xs.length := ⟨_, rfl⟩
  rw [← hl2] at L hl'
  have hl3 : (l == 0) = false := hl'
  clear hl2 hl'
  go_enter Try.func55, Try.ntmps55
  go_wp2_with (first
      | (go_at_call 46; refine L.mono ?_; rintro e w' ⟨rfl, n, rfl⟩)
      | (go_at_call 62; refine (P _).mono ?_; rintro e w' ⟨rfl, n2, rfl⟩))
  go_ret
  exact ⟨rfl, hA _, ((Fr.refl _ _ _).drewN _).set1 _ _ |>.set0 _ _⟩

end
end Go.Proofs.Ytihfekcdghmkhaa.RI
