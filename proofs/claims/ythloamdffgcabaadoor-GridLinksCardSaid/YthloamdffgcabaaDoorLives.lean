/-
  The document's example holds: the walk of lives; the config that it is made of.
-/
import Derived.Test.YthloamdffgcabaaDoorFar
import Derived.Test.YthloamdffgcabaaDoorLinks
namespace Go.Proofs.YthloamdffgcabaaDoor
open Go.RowKit

def ex : Cf := ⟨4, 4, 1, 1, 1, 1, 1, false, false⟩
theorem ex_lks : (lks ex).length = 48 := by decide +kernel
theorem ex_far : fr ex 0 15 = 6 := by decide +kernel
theorem ex_b1 : bsN ex 5 1 = 6 ∧ bsB ex 5 1 = true := by decide +kernel
theorem ex_b2 : bsN ex 5 3 = 9 ∧ bsB ex 5 3 = true := by decide +kernel
theorem ex_pl : plx ex 5 = 1 ∧ ply ex 5 = 1 ∧ ple ex 5 = 0 := by decide +kernel

theorem some_any (w : World) : Calls Tryd.prog 30 #[] w fun e w' => e = .returned (cfv ex) ∧ Below w.heap.size w w' := by
  have b0 : Hid (∀ o, Below w.heap.size w (w.alloc o)) := fun o => (Below.refl _ _).alloc (Nat.le_refl _) _
  unfold ex
  simp only [cfv, cfc] at *
  go_enter Tryd.func30, Tryd.ntmps30
  go_wp2
  exact bodyPost_ret (v := .agg #[.int .i64 4, .int .i64 4, .int .i64 1, .int .i64 1, .int .i64 1, .int .i64 1, .int .i64 1, .bool false, .bool false]) (by simp [results, Tryd.results30, go_sem]) rfl ⟨rfl, b0.out _⟩

theorem nxt {w v v' : World} (h : Below w.heap.size w v) (hb : Below v.heap.size v v') : Below w.heap.size w v' := h.trans (hb.mono h.size)

set_option maxRecDepth 100000 in
set_option maxHeartbeats 1000000 in
theorem lives_any (w : World) (hS : Steps w) : Calls Tryd.prog 8 #[] w fun e w' => e = .returned (.bool true) ∧ Below w.heap.size w w' := by
  have SO := some_any
  have PL := place_any ex 5
  rw [ex_pl.1, ex_pl.2.1, ex_pl.2.2] at PL
  have B1 := fun v h => beside_any ex 5 1 v h
  rw [ex_b1.1, ex_b1.2] at B1
  have B2 := fun v h => beside_any ex 5 3 v h
  rw [ex_b2.1, ex_b2.2] at B2
  have FA := far_any ex 0 15
  rw [ex_far] at FA
  have LK := fun v h => links_any ex v h
  have LL := ex_lks
  have HS : Hid (Steps w) := hS
  have H0 : Hid (Below w.heap.size w w) := Below.refl _ _
  clear hS
  generalize lks ex = L at *
  unfold ex at *
  simp only [cfv, cfc] at *
  go_enter Tryd.func8, Tryd.ntmps8
  go_wp2_with fail
  go_at_call 30
  refine (SO _).mono ?_
  rintro e v1 ⟨rfl, hb⟩
  have HB1 : Hid (Below w.heap.size w v1) := hb
  clear hb H0
  go_wp2_with fail
  go_at_call 9
  refine (PL _).mono ?_
  rintro e v2 ⟨rfl, hb⟩
  have HB2 : Hid (Below w.heap.size w v2) := nxt HB1.out hb
  clear hb HB1 PL
  go_wp2_with fail
  go_at_call 30
  refine (SO _).mono ?_
  rintro e v3 ⟨rfl, hb⟩
  have HB3 : Hid (Below w.heap.size w v3) := nxt HB2.out hb
  clear hb HB2
  have hs := HS.out.next HB3.out
  go_wp2_with fail
  go_at_call 15
  refine (B1 _ hs).mono ?_
  rintro e v4 ⟨rfl, hb⟩
  have HB4 : Hid (Below w.heap.size w v4) := nxt HB3.out hb
  clear hb HB3 B1 hs
  go_wp2_with fail
  go_at_call 30
  refine (SO _).mono ?_
  rintro e v5 ⟨rfl, hb⟩
  have HB5 : Hid (Below w.heap.size w v5) := nxt HB4.out hb
  clear hb HB4
  have hs := HS.out.next HB5.out
  go_wp2_with fail
  go_at_call 15
  refine (B2 _ hs).mono ?_
  rintro e v6 ⟨rfl, hb⟩
  have HB6 : Hid (Below w.heap.size w v6) := nxt HB5.out hb
  clear hb HB5 B2 hs
  go_wp2_with fail
  go_at_call 30
  refine (SO _).mono ?_
  rintro e v7 ⟨rfl, hb⟩
  have HB7 : Hid (Below w.heap.size w v7) := nxt HB6.out hb
  clear hb HB6
  go_wp2_with fail
  go_at_call 20
  refine (FA _).mono ?_
  rintro e v8 ⟨rfl, hb⟩
  have HB8 : Hid (Below w.heap.size w v8) := nxt HB7.out hb
  clear hb HB7 FA
  go_wp2_with fail
  go_at_call 30
  refine (SO _).mono ?_
  rintro e v9 ⟨rfl, hb⟩
  have HB9 : Hid (Below w.heap.size w v9) := nxt HB8.out hb
  clear hb HB8 SO
  have hs := HS.out.next HB9.out
  go_wp2_with fail
  go_at_call 22
  refine (LK _ hs).mono ?_
  rintro e va ⟨vl, rfl, own, hb⟩
  have HBa : Hid (Below w.heap.size w va) := nxt HB9.out hb
  clear hb HB9 LK hs
  obtain ⟨al, cl, rfl, _, _, rd⟩ := own.rd
  rw [LL]
  clear own rd LL
  go_wp2
  go_ret
  exact ⟨rfl, HBa.out⟩
end Go.Proofs.YthloamdffgcabaaDoor
