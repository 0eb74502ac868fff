/-
  The program's inbox: a new one; one that isn't there: a packet that comes, one that is told.
-/
import Derived.Test.YtpmkpjnhdehnhaaIMut
namespace Go.Proofs.Ytpmkpjnhdehnhaa
open Go.RowKit

def roomN (room : Int) : Nat := (min (max room 1) 64).toNat
theorem roomN_ok (room : Int) : (roomN room : Int) = min (max room 1) 64 ∧ 1 ≤ roomN room ∧ roomN room ≤ 64 := by
  unfold roomN
  omega
/-- Its blocks, as they were laid. -/
theorem made_in {w w1 : World} {n : Nat} {N : Int} (hR : RP.RingAt w1 w.heap.size w.heap.size 0 (RP.ring0 N 0)) (hb : Below w.heap.size w w1) (hlt : w.heap.size < w1.heap.size) (HN : N = (n : Int)) (OK : IOk (newI n)) :
    ∃ F, In (((w1.alloc (.map #[] 0)).alloc (.map #[] 0)).alloc (.cells (sti w.heap.size w1.heap.size (w1.heap.size + 1)) 69)) (w1.heap.size + 2) (newI n) F ∧ Below w.heap.size w (((w1.alloc (.map #[] 0)).alloc (.map #[] 0)).alloc (.cells (sti w.heap.size w1.heap.size (w1.heap.size + 1)) 69)) ∧ ∀ g, F g → w.heap.size ≤ g := by
  have hA : InAt (((w1.alloc (.map #[] 0)).alloc (.map #[] 0)).alloc (.cells (sti w.heap.size w1.heap.size (w1.heap.size + 1)) 69)) (w1.heap.size + 2) (newI n) w.heap.size w.heap.size 0 (RP.ring0 N 0) w1.heap.size (w1.heap.size + 1) [] := by
    have s1 : (w1.alloc (.map #[] 0)).heap.size = w1.heap.size + 1 := by simp
    have s2 : ((w1.alloc (.map #[] 0)).alloc (.map #[] 0)).heap.size = w1.heap.size + 2 := by simp
    have m1 := MpAt.made w1
    have m2 := MpAt.made (w1.alloc (.map #[] 0))
    rw [s1] at m2
    have k1 := (m1.keep (Below.heap_alloc _ (.map #[] 0) _ m1.lt)).keep (Below.heap_alloc ((w1.alloc (.map #[] 0)).alloc (.map #[] 0)) (.cells (sti w.heap.size w1.heap.size (w1.heap.size + 1)) 69) _ (by rw [s2]; omega))
    have k2 := m2.keep (Below.heap_alloc ((w1.alloc (.map #[] 0)).alloc (.map #[] 0)) (.cells (sti w.heap.size w1.heap.size (w1.heap.size + 1)) 69) _ (by rw [s2]; omega))
    have bl : Below w1.heap.size w1 (((w1.alloc (.map #[] 0)).alloc (.map #[] 0)).alloc (.cells (sti w.heap.size w1.heap.size (w1.heap.size + 1)) 69)) := (((Below.refl _ _).alloc (Nat.le_refl _) _).alloc (by rw [s1]; omega) _).alloc (by rw [s2]; omega) _
    refine ⟨?_, hR.below bl (Nat.le_refl _), k1, k2, ⟨by omega, by omega⟩, ⟨by omega, by omega, by omega, by omega⟩, ⟨by omega, by omega, by omega⟩, HN, rfl, rfl, fun _ => rfl, fun _ h => by cases h⟩
    have := Bk.new ((w1.alloc (.map #[] 0)).alloc (.map #[] 0)) (sti w.heap.size w1.heap.size (w1.heap.size + 1)) 69
    rwa [s2] at this
  refine ⟨_, ⟨OK, _, _, _, _, _, _, _, hA, rfl⟩, ((hb.alloc (Nat.le_of_lt hlt) _).alloc (by simp; omega) _).alloc (by simp; omega) _, fun g hg => ?_⟩
  rcases hg with rfl | rfl | rfl | rfl | rfl <;> omega
set_option maxRecDepth 100000 in
theorem inbox_new (room : Int) (w : World) : Calls Try.prog 11 #[.int .i64 room] w fun e w' => ∃ b F, e = .returned (.pointer (some ⟨b, 0, none⟩)) ∧ In w' b (newI (roomN room)) F ∧ Below w.heap.size w w' ∧ ∀ g, F g → w.heap.size ≤ g := by
  obtain ⟨e1, n1, n64⟩ := roomN_ok room
  have ok := IOk.new n1 n64
  obtain ⟨n, hn⟩ : ∃ n, n = roomN room := ⟨_, rfl⟩
  rw [← hn] at ok e1 ⊢
  clear n1 n64 hn
  have R : Calls Try.prog 29 #[.int .i64 (n : Int), .int .u32 0] w fun e w' => e = .returned (.pointer (some ⟨w.heap.size, 0, none⟩)) ∧ RP.RingAt w' w.heap.size w.heap.size 0 (RP.ring0 (n : Int) 0) ∧ Below w.heap.size w w' ∧ w.heap.size < w'.heap.size := RP.ring_new (n : Int) 0 (by decide) w
  obtain ⟨N, hN⟩ : ∃ N : Int, N = n := ⟨_, rfl⟩
  rw [← hN] at R e1
  have hmm := @run_makeMap Try.prog
  have HN : Hid (N = (n : Int)) := hN
  have OK : Hid (IOk (newI n)) := ok
  have E1 : Hid (N = min (max room 1) 64) := e1
  clear ok hN e1
  go_enter Try.func11, Try.ntmps11
  go_upto_region 2 with fail
  have q : (if 64 < if room < 1 then 1 else room then 64 else if room < 1 then 1 else room) = N := by
    rw [E1.out]
    split <;> split <;> omega
  rw [q]
  clear q
  go_wp2_with (go_at_call 29; with_reducible refine R.mono ?_; rintro e w1 ⟨rfl, hR, hb, hlt⟩)
  all_goals
    go_ret
    obtain ⟨F, h1, h2, h3⟩ := made_in hR hb hlt HN.out OK.out
    exact ⟨w1.heap.size + 2, rfl, F, h1, h2, h3⟩

theorem map_nil_eq (r : Option Nat) (w : World) : (binOp .eql 64 (.map r) (.map none)).run Try.prog w = .ok (.bool r.isNone) w := run_eql_map_nil w _ _ _ r Try.underlying64
set_option maxRecDepth 100000 in
theorem inil_come (p : Pk) (w : World) : Calls Try.prog 17 #[.pointer none, pkv p] w fun e w' => e = .returned (.int .i64 1) ∧ Below w.heap.size w w' := by
  have B0 : Hid (Below w.heap.size w (w.alloc (.cells (pkc p) 33))) := (Below.refl _ _).alloc (Nat.le_refl _) _
  have K := ilook_nil (w.alloc (.cells (pkc p) 33))
  have EQ := map_nil_eq none
  obtain ⟨ps, pd, pq, px⟩ := p
  simp only [stz, pkv, pkc, Option.isNone] at *
  have f1 := fld1 (.pointer none) (.map none) (.map none)
  go_enter Try.func17, Try.ntmps17
  go_wp2_with (go_at_call 30; with_reducible refine K.mono ?_; rintro e w1 ⟨rfl, hb1⟩)
  go_ret
  exact ⟨rfl, B0.out.trans (hb1.mono (by simp))⟩
set_option maxRecDepth 100000 in
theorem inil_tell (w : World) : Calls Try.prog 19 #[.pointer none] w fun e w' => e = .returned (.bool false) ∧ Below w.heap.size w w' := by
  have K := ilook_nil w
  have L := RP.rgnil_room
  simp only [stz] at *
  go_enter Try.func19, Try.ntmps19
  go_wp2_with (first
    | (go_at_call 30; with_reducible refine K.mono ?_; rintro e w1 ⟨rfl, hb1⟩)
    | (go_at_call 32; with_reducible refine (L _).mono ?_; rintro e w2 ⟨rfl, rfl⟩))
  go_ret
  exact ⟨rfl, hb1.alloc hb1.size _⟩
end Go.Proofs.Ytpmkpjnhdehnhaa
