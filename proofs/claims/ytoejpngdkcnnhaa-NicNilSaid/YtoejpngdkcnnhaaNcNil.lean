/-
  A nic that isn't there. (Written by gen_nnil.py.)
-/
import Derived.Test.YtoejpngdkcnnhaaNcTake
import Derived.Test.YtoejpngdkcnnhaaNcBeg
import Derived.Test.YtoejpngdkcnnhaaNcErr
import Derived.Test.YtoejpngdkcnnhaaNcPuts
namespace Go.Proofs.Ytoejpngdkcnnhaa
open Go.RowKit

abbrev nlw (w : World) : World := w.alloc (.cells znl.toArray 73)
set_option maxRecDepth 100000 in
theorem look_no (w : World) : Calls Try.prog 33 #[.pointer none] w fun e w' => e = .returned (.pointer (some ⟨w.heap.size, 0, none⟩)) ∧ nlw w = w' := by
  go_enter Try.func33, Try.ntmps33
  go_wp2
  go_ret
  exact ⟨rfl, rfl⟩
theorem nlw_cells (w : World) : (nlw w).cell? ⟨w.heap.size, 0, none⟩ = some (.pointer none) ∧ (nlw w).cell? ⟨w.heap.size, 11, none⟩ = some (.int .i64 0) ∧ (nlw w).cell? ⟨w.heap.size, 12, none⟩ = some (.int .i64 0) ∧ ∀ k, k < 40 → (nlw w).cell? ⟨w.heap.size, 14 + k, none⟩ = some (.pointer none) := by
  have h := Bk.new w znl.toArray 73
  refine ⟨(h.cell 0).trans rfl, (h.cell 11).trans rfl, (h.cell 12).trans rfl, fun k hk => ?_⟩
  rw [h.cell, List.getElem?_toArray]
  unfold znl
  rw [List.getElem?_append_right (by simp), List.getElem?_replicate]
  simp only [List.length_cons, List.length_nil, Nat.zero_add, Nat.reduceAdd, Nat.add_sub_cancel_left]
  rw [if_pos hk]
theorem nlw_below (w : World) : Below w.heap.size w (nlw w) := (Below.refl _ _).alloc (Nat.le_refl _) _
theorem nl_waits (w : World) : Calls Try.prog 11 #[.pointer none] w fun e w' => e = .returned (.int .i64 0) ∧ Below w.heap.size w w' := by
  have CL := look_no w
  have c0 := (nlw_cells w).1
  have CI := I.inil_waits (nlw w)
  have HB : Hid (Below w.heap.size w (nlw w)) := nlw_below w
  generalize nlw w = v at *
  obtain ⟨r, hr⟩ : ∃ r, w.heap.size = r := ⟨_, rfl⟩
  rw [hr] at CL c0
  clear hr
  go_enter Try.func11, Try.ntmps11
  go_wp2_with fail
  go_at_call 33
  with_reducible refine CL.mono ?_
  rintro e v1 ⟨rfl, rfl⟩
  go_wp2_with (go_at_call 37; with_reducible refine CI.mono ?_; rintro e v2 ⟨rfl, b2⟩)
  go_ret
  exact ⟨rfl, HB.out.trans (b2.mono HB.out.size)⟩
theorem nl_tell (w : World) : Calls Try.prog 13 #[.pointer none] w fun e w' => e = .returned (.bool false) ∧ Below w.heap.size w w' := by
  have CL := look_no w
  have c0 := (nlw_cells w).1
  have CI := I.inil_tell (nlw w)
  have HB : Hid (Below w.heap.size w (nlw w)) := nlw_below w
  generalize nlw w = v at *
  obtain ⟨r, hr⟩ : ∃ r, w.heap.size = r := ⟨_, rfl⟩
  rw [hr] at CL c0
  clear hr
  go_enter Try.func13, Try.ntmps13
  go_wp2_with fail
  go_at_call 33
  with_reducible refine CL.mono ?_
  rintro e v1 ⟨rfl, rfl⟩
  go_wp2_with (go_at_call 39; with_reducible refine CI.mono ?_; rintro e v2 ⟨rfl, b2⟩)
  go_ret
  exact ⟨rfl, HB.out.trans (b2.mono HB.out.size)⟩
theorem nl_len (w : World) : Calls Try.prog 24 #[.pointer none] w fun e w' => e = .returned (.int .i64 0) ∧ Below w.heap.size w w' := by
  have CL := look_no w
  have c0 := (nlw_cells w).1
  have CI := I.inil_len (nlw w)
  have HB : Hid (Below w.heap.size w (nlw w)) := nlw_below w
  generalize nlw w = v at *
  obtain ⟨r, hr⟩ : ∃ r, w.heap.size = r := ⟨_, rfl⟩
  rw [hr] at CL c0
  clear hr
  go_enter Try.func24, Try.ntmps24
  go_wp2_with fail
  go_at_call 33
  with_reducible refine CL.mono ?_
  rintro e v1 ⟨rfl, rfl⟩
  go_wp2_with (go_at_call 47; with_reducible refine CI.mono ?_; rintro e v2 ⟨rfl, b2⟩)
  go_ret
  exact ⟨rfl, HB.out.trans (b2.mono HB.out.size)⟩
theorem nl_room (w : World) : Calls Try.prog 25 #[.pointer none] w fun e w' => e = .returned (.int .i64 0) ∧ Below w.heap.size w w' := by
  have CL := look_no w
  have c0 := (nlw_cells w).1
  have CI := I.inil_room (nlw w)
  have HB : Hid (Below w.heap.size w (nlw w)) := nlw_below w
  generalize nlw w = v at *
  obtain ⟨r, hr⟩ : ∃ r, w.heap.size = r := ⟨_, rfl⟩
  rw [hr] at CL c0
  clear hr
  go_enter Try.func25, Try.ntmps25
  go_wp2_with fail
  go_at_call 33
  with_reducible refine CL.mono ?_
  rintro e v1 ⟨rfl, rfl⟩
  go_wp2_with (go_at_call 48; with_reducible refine CI.mono ?_; rintro e v2 ⟨rfl, b2⟩)
  go_ret
  exact ⟨rfl, HB.out.trans (b2.mono HB.out.size)⟩
theorem nl_ready (w : World) : Calls Try.prog 26 #[.pointer none] w fun e w' => e = .returned (.bool false) ∧ Below w.heap.size w w' := by
  have CL := look_no w
  have c0 := (nlw_cells w).1
  have CI := I.inil_ready (nlw w)
  have HB : Hid (Below w.heap.size w (nlw w)) := nlw_below w
  generalize nlw w = v at *
  obtain ⟨r, hr⟩ : ∃ r, w.heap.size = r := ⟨_, rfl⟩
  rw [hr] at CL c0
  clear hr
  go_enter Try.func26, Try.ntmps26
  go_wp2_with fail
  go_at_call 33
  with_reducible refine CL.mono ?_
  rintro e v1 ⟨rfl, rfl⟩
  go_wp2_with (go_at_call 49; with_reducible refine CI.mono ?_; rintro e v2 ⟨rfl, b2⟩)
  go_ret
  exact ⟨rfl, HB.out.trans (b2.mono HB.out.size)⟩
theorem nl_next (w : World) : Calls Try.prog 15 #[.pointer none, .int .i64 1] w fun e w' => e = .returned (.int .i64 0) ∧ Below w.heap.size w w' := by
  have CL := look_no w
  have c0 := (nlw_cells w).1
  have CI := I.inil_next (nlw w) (s := 1) (by decide)
  have HB : Hid (Below w.heap.size w (nlw w)) := nlw_below w
  generalize nlw w = v at *
  obtain ⟨r, hr⟩ : ∃ r, w.heap.size = r := ⟨_, rfl⟩
  rw [hr] at CL c0
  clear hr
  go_enter Try.func15, Try.ntmps15
  go_wp2_with fail
  go_at_call 33
  with_reducible refine CL.mono ?_
  rintro e v1 ⟨rfl, rfl⟩
  go_wp2_with (go_at_call 41; with_reducible refine CI.mono ?_; rintro e v2 ⟨rfl, b2⟩)
  go_ret
  exact ⟨rfl, HB.out.trans (b2.mono HB.out.size)⟩
theorem nl_left (w : World) : Calls Try.prog 17 #[.pointer none] w fun e w' => e = .returned (.int .i64 0) ∧ Below w.heap.size w w' := by
  have CL := look_no w
  have c0 := (nlw_cells w).2.2.1
  have HB : Hid (Below w.heap.size w (nlw w)) := nlw_below w
  generalize nlw w = v at *
  obtain ⟨r, hr⟩ : ∃ r, w.heap.size = r := ⟨_, rfl⟩
  rw [hr] at CL c0
  clear hr
  go_enter Try.func17, Try.ntmps17
  go_wp2_with (go_at_call 33; with_reducible refine CL.mono ?_; rintro e v1 ⟨rfl, rfl⟩)
  go_ret
  exact ⟨rfl, HB.out⟩
theorem nl_sent (w : World) : Calls Try.prog 23 #[.pointer none] w fun e w' => e = .returned (.int .i64 0) ∧ Below w.heap.size w w' := by
  have CL := look_no w
  have c0 := (nlw_cells w).2.1
  have HB : Hid (Below w.heap.size w (nlw w)) := nlw_below w
  generalize nlw w = v at *
  obtain ⟨r, hr⟩ : ∃ r, w.heap.size = r := ⟨_, rfl⟩
  rw [hr] at CL c0
  clear hr
  go_enter Try.func23, Try.ntmps23
  go_wp2_with (go_at_call 33; with_reducible refine CL.mono ?_; rintro e v1 ⟨rfl, rfl⟩)
  go_ret
  exact ⟨rfl, HB.out⟩
theorem nl_begun (w : World) : Calls Try.prog 12 #[.pointer none] w fun e w' => e = .returned (.int .i64 0) ∧ Below w.heap.size w w' :=
  begun_zero (q := fun _ => none) (nlw w) none (nlw_below w) (look_no w) (nlw_cells w).2.2.2 fun _k _ v _ => begun_nil v
theorem nl_take (p l : Int) (W : Nat) (w : World) : Calls Try.prog 10 #[.pointer none, .int .i64 p, .int .i64 l, .int .u64 (W : Int)] w fun e w' => e = .returned (.int .i64 1) ∧ Below w.heap.size w w' := by
  refine take_none w.heap.size w.heap.size none p l W w (nlw w) (nlw_below w) (look_no w) ?_
  by_cases h : p < 0 ∨ 5 ≤ p ∨ l < 0 ∨ 8 ≤ l
  · exact at_out _ p l _ h
  · obtain ⟨p', rfl⟩ : ∃ p' : Nat, p = (p' : Int) := ⟨p.toNat, by omega⟩
    obtain ⟨l', rfl⟩ : ∃ l' : Nat, l = (l' : Int) := ⟨l.toNat, by omega⟩
    exact at_in _ p' l' _ _ (by omega) (by omega) ((nlw_cells w).2.2.2 _ (by omega))
set_option maxRecDepth 100000 in
theorem nl_send (s : Int) (c : Bool) (a : Value) (x : ByteArray) (w : World) : Calls Try.prog 20 #[.pointer none, pcv s c a x] w fun e w' => e = .returned (.int .i64 1) ∧ Below w.heap.size w w' := by
  have b1 : Below w.heap.size w (w.alloc (.cells (pcc s c a x) 61)) := (Below.refl _ _).alloc (Nat.le_refl _) _
  have CL := look_no (w.alloc (.cells (pcc s c a x) 61))
  have c0 := (nlw_cells (w.alloc (.cells (pcc s c a x) 61))).1
  have HB : Hid (Below w.heap.size w (nlw (w.alloc (.cells (pcc s c a x) 61)))) := b1.trans ((nlw_below _).mono b1.size)
  generalize nlw (w.alloc (.cells (pcc s c a x) 61)) = v at *
  simp only [pcv, pcc] at *
  clear b1
  go_enter Try.func20, Try.ntmps20
  go_wp2_with fail
  go_at_call 33
  with_reducible refine CL.mono ?_
  rintro e v1 ⟨rfl, rfl⟩
  generalize w.alloc (.cells #[.int .i64 s, .bool c, a, .string x] 61) = u at *
  generalize u.heap.size = r at *
  go_wp2
  go_ret
  exact ⟨rfl, HB.out⟩
set_option maxRecDepth 100000 in
theorem nl_first (w : World) : Calls Try.prog 18 #[.pointer none] w fun e w' => e = .returned (.tuple #[zcell, .int .i64 1]) ∧ Below w.heap.size w w' := by
  have b1 : Below w.heap.size w (w.alloc (.cells #[.int .i64 0, .int .u64 0] 55)) := (Below.refl _ _).alloc (Nat.le_refl _) _
  have CL := look_no (w.alloc (.cells #[.int .i64 0, .int .u64 0] 55))
  have c0 := (nlw_cells (w.alloc (.cells #[.int .i64 0, .int .u64 0] 55))).1
  have HB : Hid (Below w.heap.size w (nlw (w.alloc (.cells #[.int .i64 0, .int .u64 0] 55)))) := b1.trans ((nlw_below _).mono b1.size)
  have BN : Bk (nlw (w.alloc (.cells #[.int .i64 0, .int .u64 0] 55))) w.heap.size #[.int .i64 0, .int .u64 0] 55 := (Bk.new w #[.int .i64 0, .int .u64 0] 55).next (nlw_below _)
  generalize nlw (w.alloc (.cells #[.int .i64 0, .int .u64 0] 55)) = v at *
  clear b1
  go_enter Try.func18, Try.ntmps18
  go_wp2_with fail
  go_at_call 33
  with_reducible refine CL.mono ?_
  rintro e v1 ⟨rfl, rfl⟩
  generalize w.alloc (.cells #[.int .i64 0, .int .u64 0] 55) = u at *
  generalize u.heap.size = r at *
  obtain ⟨k, hk⟩ : ∃ r, w.heap.size = r := ⟨_, rfl⟩
  have HR : Hid (w.heap.size = k) := hk
  rw [hk] at BN ⊢
  clear hk
  have b0 := BN.cell 0
  have b1 := BN.cell 1
  have f0 := BN.free 0
  have f1 := BN.free 1
  simp only [List.getElem?_toArray, List.getElem?_cons_zero, List.getElem?_cons_succ] at b0 b1
  have BH : Hid (Bk v k #[.int .i64 0, .int .u64 0] 55) := BN
  clear BN
  go_wp2
  have Y := two_at (x0 := .int .i64 0) (x1 := .int .u64 0) BH.out
  have y0 := Y.cell 0
  have y1 := Y.cell 1
  simp only [List.getElem?_toArray, List.getElem?_cons_zero, List.getElem?_cons_succ] at y0 y1
  exact bodyPost_ret (v := .tuple #[.agg #[.int .i64 0, .int .u64 0], .int .i64 1]) (by simp [results, Try.results18, go_sem, y0, y1]; try rfl) rfl ⟨rfl, two_below HB.out (by rw [HR.out]; exact Nat.le_refl _) _ _⟩
theorem nl_put (w : World) : Calls Try.prog 19 #[.pointer none] w fun e w' => e = .returned (.tuple #[zcell, .int .i64 1]) ∧ Below w.heap.size w w' := by
  have b1 : Below w.heap.size w (w.alloc (.cells #[.int .i64 0, .int .u64 0] 55)) := (Below.refl _ _).alloc (Nat.le_refl _) _
  have CF := nl_first (w.alloc (.cells #[.int .i64 0, .int .u64 0] 55))
  simp only [zcell] at CF ⊢
  have HB : Hid (Below w.heap.size w (w.alloc (.cells #[.int .i64 0, .int .u64 0] 55))) := b1
  have BN := Bk.new w #[.int .i64 0, .int .u64 0] 55
  clear b1
  go_enter Try.func19, Try.ntmps19
  go_upto_region 1 with fail
  generalize w.alloc (.cells #[.int .i64 0, .int .u64 0] 55) = v at *
  obtain ⟨k, hk⟩ : ∃ r, w.heap.size = r := ⟨_, rfl⟩
  have HR : Hid (w.heap.size = k) := hk
  rw [hk] at BN ⊢
  clear hk
  go_wp2_with fail
  go_at_call 18
  with_reducible refine CF.mono ?_
  rintro e v2 ⟨rfl, hb2⟩
  have BH : Hid (Bk v2 k #[.int .i64 0, .int .u64 0] 55) := BN.next hb2
  have HB2 : Hid (Below w.heap.size w v2) := HB.out.trans (hb2.mono HB.out.size)
  clear BN hb2 CF HB
  go_upto_region 2 with fail
  have C2 := Bk.new v2 #[.int .i64 0, .int .u64 0] 55
  have C1 := BH.out.alloc (.cells #[.int .i64 0, .int .u64 0] 55)
  have HB3 : Hid (Below w.heap.size w (v2.alloc (.cells #[.int .i64 0, .int .u64 0] 55))) := HB2.out.alloc HB2.out.size _
  clear BH HB2
  generalize v2.alloc (.cells #[.int .i64 0, .int .u64 0] 55) = v3 at *
  generalize v2.heap.size = k2 at *
  have a0 := C1.cell 0
  have a1 := C1.cell 1
  have f0 := C1.free 0
  have f1 := C1.free 1
  have d0 := C2.cell 0
  have d1 := C2.cell 1
  simp only [List.getElem?_toArray, List.getElem?_cons_zero, List.getElem?_cons_succ] at a0 a1 d0 d1
  have BH : Hid (Bk v3 k #[.int .i64 0, .int .u64 0] 55) := C1
  clear C1 C2
  go_wp2
  have Y := two_at (x0 := .int .i64 0) (x1 := .int .u64 0) BH.out
  have y0 := Y.cell 0
  have y1 := Y.cell 1
  simp only [List.getElem?_toArray, List.getElem?_cons_zero, List.getElem?_cons_succ] at y0 y1
  exact bodyPost_ret (v := .tuple #[.agg #[.int .i64 0, .int .u64 0], .int .i64 1]) (by simp [results, Try.results19, go_sem, y0, y1]; try rfl) rfl ⟨rfl, two_below HB3.out (by rw [HR.out]; exact Nat.le_refl _) _ _⟩
theorem four_belowN {w v : World} {b : Nat} (h : Below w.heap.size w v) (hb : w.heap.size ≤ b) (x0 x1 x2 x3 : Value) : Below w.heap.size w ((((v.setCell ⟨b, 0, none⟩ x0).setCell ⟨b, 1, none⟩ x1).setCell ⟨b, 2, none⟩ x2).setCell ⟨b, 3, none⟩ x3) :=
  h.trans ⟨rfl, rfl, rfl, by simp, fun i hi => (((Below.heap_setCell _ ⟨b, 3, none⟩ _ i (by show i ≠ b; omega)).trans (Below.heap_setCell _ ⟨b, 2, none⟩ _ i (by show i ≠ b; omega))).trans (Below.heap_setCell _ ⟨b, 1, none⟩ _ i (by show i ≠ b; omega))).trans (Below.heap_setCell _ ⟨b, 0, none⟩ _ i (by show i ≠ b; omega))⟩
set_option maxRecDepth 100000 in
theorem nl_recv (w : World) : Calls Try.prog 14 #[.pointer none] w fun e w' => e = .returned (.tuple #[.agg #[.int .i64 0, .int .i64 0, .int .i64 0, .string ⟨#[]⟩], .int .i64 1]) ∧ Below w.heap.size w w' := by
  have b1 : Below w.heap.size w (w.alloc (.cells #[.int .i64 0, .int .i64 0, .int .i64 0, .string ⟨#[]⟩] 46)) := (Below.refl _ _).alloc (Nat.le_refl _) _
  have CL := look_no (w.alloc (.cells #[.int .i64 0, .int .i64 0, .int .i64 0, .string ⟨#[]⟩] 46))
  have c0 := (nlw_cells (w.alloc (.cells #[.int .i64 0, .int .i64 0, .int .i64 0, .string ⟨#[]⟩] 46))).1
  have CI := I.inil_recv (nlw (w.alloc (.cells #[.int .i64 0, .int .i64 0, .int .i64 0, .string ⟨#[]⟩] 46)))
  have HB : Hid (Below w.heap.size w (nlw (w.alloc (.cells #[.int .i64 0, .int .i64 0, .int .i64 0, .string ⟨#[]⟩] 46)))) := b1.trans ((nlw_below _).mono b1.size)
  have BN : Bk (nlw (w.alloc (.cells #[.int .i64 0, .int .i64 0, .int .i64 0, .string ⟨#[]⟩] 46))) w.heap.size #[.int .i64 0, .int .i64 0, .int .i64 0, .string ⟨#[]⟩] 46 := (Bk.new w #[.int .i64 0, .int .i64 0, .int .i64 0, .string ⟨#[]⟩] 46).next (nlw_below _)
  generalize nlw (w.alloc (.cells #[.int .i64 0, .int .i64 0, .int .i64 0, .string ⟨#[]⟩] 46)) = v at *
  clear b1
  simp only [I.pkv, I.pkc] at CI
  go_enter Try.func14, Try.ntmps14
  go_wp2_with fail
  go_at_call 33
  with_reducible refine CL.mono ?_
  rintro e v1 ⟨rfl, rfl⟩
  generalize w.alloc (.cells #[.int .i64 0, .int .i64 0, .int .i64 0, .string ⟨#[]⟩] 46) = u at *
  generalize u.heap.size = r at *
  obtain ⟨k, hk⟩ : ∃ r, w.heap.size = r := ⟨_, rfl⟩
  have HR : Hid (w.heap.size = k) := hk
  rw [hk] at BN ⊢
  clear hk
  go_wp2_with fail
  go_at_call 40
  with_reducible refine CI.mono ?_
  rintro e v2 ⟨rfl, b2⟩
  have B2 := BN.next b2
  have HB2 : Hid (Below w.heap.size w v2) := HB.out.trans (b2.mono HB.out.size)
  clear BN b2 CI CL HB c0
  have a0 := B2.cell 0
  have a1 := B2.cell 1
  have a2 := B2.cell 2
  have a3 := B2.cell 3
  have f0 := B2.free 0
  have f1 := B2.free 1
  have f2 := B2.free 2
  have f3 := B2.free 3
  simp only [List.getElem?_toArray, List.getElem?_cons_zero, List.getElem?_cons_succ] at a0 a1 a2 a3
  have BH : Hid (Bk v2 k #[.int .i64 0, .int .i64 0, .int .i64 0, .string ⟨#[]⟩] 46) := B2
  clear B2
  go_wp2
  have Y4 := fourp_at (x0 := .int .i64 0) (x1 := .int .i64 0) (x2 := .int .i64 0) (x3 := .string ⟨#[]⟩) BH.out
  have y0 := Y4.cell 0
  have y1 := Y4.cell 1
  have y2 := Y4.cell 2
  have y3 := Y4.cell 3
  simp only [List.getElem?_toArray, List.getElem?_cons_zero, List.getElem?_cons_succ] at y0 y1 y2 y3
  refine bodyPost_ret (v := .tuple #[.agg #[.int .i64 0, .int .i64 0, .int .i64 0, .string ⟨#[]⟩], .int .i64 1]) (by simp [results, Try.results14, go_sem, y0, y1, y2, y3]; try rfl) rfl ⟨rfl, four_belowN HB2.out (by rw [HR.out]; exact Nat.le_refl _) _ _ _ _⟩
end Go.Proofs.Ytoejpngdkcnnhaa
