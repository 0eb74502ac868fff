/-
  All over a ring.
-/
import Derived.Test.YtpmkpjnhdehnhaaRpOps
import Derived.WalkSmall
namespace Go.Proofs.Ytpmkpjnhdehnhaa.RP
open Go.RowKit

theorem Try.info33 : (Try.prog.info? 33).map (fun i => (i.zero, i.size, i.bytes)) = some (some (.agg #[.int .i64 0, .int .i64 0, .int .i64 0, .string ⟨#[]⟩]), 4, 40) := by kernel_rfl

/-- The slice value v is the call's own (blocks from B on) and holds l. -/
def Ints (w : World) (B : Nat) (v : Value) (l : List Pk) : Prop := w.ownsRow B 33 4 v l.length (l.flatMap pk4)

theorem Ints.drewN {w : World} {B : Nat} {v : Value} {l : List Pk} (h : Ints w B v l) (n : Nat) : Ints (w.drewN n) B v l := h

theorem take_snoc' (l : List Pk) (k : Nat) (h : k < l.length) : l.take (k + 1) = l.take k ++ [l.getD k zc] := by
  rw [List.take_succ_eq_append_getElem h]; simp [h]

theorem Ints.snoc {w : World} {B : Nat} {v : Value} {l : List Pk} {k : Nat} (hk : k < l.length)
    (h : w.ownsRow B 33 4 v (min k l.length + 1) ((l.take k).flatMap pk4 ++ pk4 (l.getD k zc))) : Ints w B v (l.take (k + 1)) := by
  unfold Ints
  rw [take_snoc' l k hk, List.flatMap_append, List.length_append]
  simpa using h

section
variable {w : World} {b pb m : Nat} {s : RingSt}
set_option maxHeartbeats 800000 in
theorem ring_all (h : RingAt w b pb m s) :
    Calls Try.prog 44 #[.pointer (some ⟨b, 0, none⟩)] w fun e w' => ∃ v, e = .returned v ∧ Ints w' w.heap.size v s.xs ∧ Below w.heap.size w w' := by
  obtain ⟨i0, hi, hz0, hz1, hz2⟩ := info_parts Try.info33
  have L := ring_len h
  have hlen : s.xs.length ≤ 4096 := by have := h.1.hcap; omega
  have hb := h.lt
  obtain ⟨B, hB⟩ : ∃ B, B = w.heap.size := ⟨_, rfl⟩
  rw [← hB]
  obtain ⟨n, hn⟩ : ∃ n : Nat, n = s.xs.length := ⟨_, rfl⟩
  rw [← hn] at L
  have HB : Hid (B = w.heap.size) := hB
  have HN : Hid (n = s.xs.length) := hn
  have hn1 : n ≤ 4096 := by omega
  clear hB hn hlen
  go_enter Try.func44, Try.ntmps44
  go_wp2_with (go_at_call 37; refine L.mono ?_; rintro e w' ⟨rfl, nq, rfl⟩)
  go_loopw [3, 7] (fun v i wr => ∃ k : Nat, k ≤ n ∧ i = .int .i64 k ∧ Ints wr B v (s.xs.take k) ∧ Below B w wr) (fun _ i _ => n - (intOf i).toNat)
  case atStart => exact ⟨0, Nat.zero_le _, rfl, World.ownsRow_nil _ _ _ _, below_drewN (Below.refl _ _) _⟩
  case round =>
    obtain ⟨k, hk, rfl, hown, hbel⟩ := hrel
    by_cases hlt : k < n
    · have hl : k < s.xs.length := by have := HN.out; omega
      have hR := h.below hbel (by have := HB.out; omega)
      have hm := h.pos (Or.inl (by intro c; rw [c] at hl; simp at hl))
      obtain ⟨ps, hf⟩ := hR.filled hm
      obtain ⟨hc, hd, he, hg⟩ := hf.cell (q := (s.o + k) % m) (v := s.xs.getD k zc) (by rw [hf.2.2.2.2.2.2.1 k hl]; simp [hl])
      have P : ∀ n, Calls Try.prog 42 #[.pointer (some ⟨b, 0, none⟩), .int .u32 (((s.o : Int) + k) % 4294967296)] (wr.drewN n) fun e w' => e = .returned (.pointer (some ⟨pb, (s.o + k) % m * 4, none⟩)) ∧ ∃ n', w' = (wr.drewN n).drewN n' := fun n => by
        have := ring_place (hR.drewN n) hm ((s.o + k) % 4294967296) (by omega)
        obtain ⟨⟨kk, hkk⟩, hm2, _⟩ := hf
        rw [mod32 hkk hm2] at this
        have e : (((s.o + k) % 4294967296 : Nat) : Int) = ((s.o : Int) + k) % 4294967296 := by omega
        rw [e] at this
        exact this
      have P0 : Calls Try.prog 42 #[.pointer (some ⟨b, 0, none⟩), .int .u32 (((s.o : Int) + k) % 4294967296)] wr fun e w' => e = .returned (.pointer (some ⟨pb, (s.o + k) % m * 4, none⟩)) ∧ ∃ n', w' = wr.drewN n' := P 0
      have h3 : wr.cell? ⟨b, 3, none⟩ = some (.int .u32 s.o) := by obtain ⟨_, ⟨t, ht⟩, _⟩ := hR; rw [cell_of ht]; rfl
      have hsz : B ≤ wr.heap.size := by have := hbel.size; have := HB.out; omega
      have hkl : (s.xs.take k).length = k := by simp; omega
      have HKL : Hid ((s.xs.take k).length = k) := hkl
      clear hkl hf hm hR P
      obtain ⟨x, hx⟩ : ∃ x, x = s.xs.getD k zc := ⟨_, rfl⟩
      rw [← hx] at hc hd he hg
      have HX : Hid (x = s.xs.getD k zc) := hx
      clear hx
      go_wp2_with (first
        | (go_at_call 42; refine P0.mono ?_; rintro e w' ⟨rfl, n2, rfl⟩)
        | (at_builtin; refine wpList_append_own _ rfl _ _ 26 rfl B 33 i0 (.agg #[.int .i64 0, .int .i64 0, .int .i64 0, .string ⟨#[]⟩]) 4 40 Try.underlying26 hi hz0 hz1 hz2 rfl (by decide) _ _ _ rfl ((hown.drewN _).alloc _) ⟨wr.heap.size, 0, none⟩ 1 1 (pk4 x) rfl rfl ?c1 ?c2 ?c3 ?c4 ?c5 ?_))
      case c1 =>
        intro j u hj
        match j, hj with
        | 0, hj => simp at hj; subst hj; exact (World.cell?_alloc_at _ _ _ _ rfl).trans rfl
        | 1, hj => simp at hj; subst hj; exact (World.cell?_alloc_at _ _ _ _ rfl).trans rfl
        | 2, hj => simp at hj; subst hj; exact (World.cell?_alloc_at _ _ _ _ rfl).trans rfl
        | 3, hj => simp at hj; subst hj; exact (World.cell?_alloc_at _ _ _ _ rfl).trans rfl
      case c2 => intro u hu; simp at hu; rcases hu with rfl | rfl | rfl | rfl <;> rfl
      case c3 => have := HKL.out; unfold maxLen; omega
      case c4 => have := HKL.out; omega
      case c5 => simp; omega
      · intro v' w1 hown' hgrow _
        have hown2 : Ints w1 B v' (s.xs.take (k + 1)) := by
          rw [HX.out] at hown'
          exact Ints.snoc hl hown'
        have hbel2 : Below B w w1 := Below.grown ((below_drewN hbel n2).alloc (by simpa using hsz) _) hgrow (by simp; omega) (fun q hq => (hown.lt q hq).1)
        clear hown' hgrow hown hbel hc hd he hg P0 h3
        go_wp2
        go_roundw
        case rel => exact ⟨k + 1, by omega, by go_num, hown2, hbel2⟩
        case measure => simp [intOf]; omega
    · go_wp2
      go_ret
      exact ⟨_, rfl, by rw [List.take_of_length_le (by have := HN.out; omega)] at hown; exact hown, hbel⟩

end
end Go.Proofs.Ytpmkpjnhdehnhaa.RP
