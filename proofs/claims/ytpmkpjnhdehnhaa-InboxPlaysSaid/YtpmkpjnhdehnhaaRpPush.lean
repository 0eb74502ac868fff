/-
  Lay, Push, Pop over a ring.
-/
import Derived.Test.YtpmkpjnhdehnhaaRpWiden
namespace Go.Proofs.Ytpmkpjnhdehnhaa.RP
open Go.RowKit

/-- The ring at b is s' now; only its own blocks have turned. -/
def Stp (b pb : Nat) (w w' : World) (s' : RingSt) : Prop := ∃ pb' m', RingAt w' b pb' m' s' ∧ Fr b pb w w' ∧ (pb' = pb ∨ w.heap.size ≤ pb')

theorem Stp.drewN {b pb : Nat} {w w' : World} {s' : RingSt} (h : Stp b pb w w' s') (n : Nat) : Stp b pb w (w'.drewN n) s' := by
  obtain ⟨p, m, h1, h2, h3⟩ := h
  exact ⟨p, m, h1, h2.drewN n, h3⟩

section
variable {w : World} {b pb m : Nat} {s : RingSt}

theorem Stp.ofDrew (h : RingAt w b pb m s) (n : Nat) : Stp b pb w (w.drewN n) s := ⟨pb, m, h, (Fr.refl _ _ _).drewN n, Or.inl rfl⟩
theorem Stp.ofSame (h : RingAt w b pb m s) : Stp b pb w w s := ⟨pb, m, h, Fr.refl _ _ _, Or.inl rfl⟩

/-- widen: there is a place more. -/
theorem ring_widen (h : RingAt w b pb m s) (hla : s.laid = false) (hlt : (s.xs.length : Int) < min (max s.room 1) 4096) :
    Calls Try.prog 43 #[.pointer (some ⟨b, 0, none⟩)] w fun e w' => e = .returned (.tuple #[]) ∧ ∃ nb M, RingAt w' b nb M s ∧ s.xs.length < M ∧ (nb = pb ∨ w.heap.size ≤ nb) ∧ Fr b pb w w' := by
  rcases Nat.lt_or_ge s.xs.length m with c | c
  · refine (widen_no h c).mono ?_
    rintro e w' ⟨rfl, n, rfl⟩
    exact ⟨rfl, pb, m, h, c, Or.inl rfl, (Fr.refl _ _ _).drewN n⟩
  · refine (widen_yes h c hla hlt).mono ?_
    rintro e w' ⟨rfl, nb, M, h1, h2, h3, h4⟩
    exact ⟨rfl, nb, M, h1, h2, Or.inr h3, h4⟩

theorem Stp.ofBelow {w' : World} (h : RingAt w b pb m s) (hb : Below w.heap.size w w') : Stp b pb w w' s := ⟨pb, m, h.next hb, Fr.ofBelow hb (Nat.le_refl _), Or.inl rfl⟩
theorem box_below (w : World) (o : Obj) : Below w.heap.size w (w.alloc o) := (Below.refl _ _).alloc (Nat.le_refl _) o
theorem lay_laid (h : RingAt w b pb m s) (hla : s.laid = true) (v : Pk) :
    Calls Try.prog 39 #[.pointer (some ⟨b, 0, none⟩), pkv v] w fun e w' => e = .returned (.int .i64 13) ∧ Below w.heap.size w w' := by
  have B0 : Hid (Below w.heap.size w (w.alloc (.cells (pk4 v).toArray 33))) := box_below _ _
  have h4 : (w.alloc (.cells (pk4 v).toArray 33)).cell? ⟨b, 4, none⟩ = some (.bool true) := by obtain ⟨_, ⟨t, ht⟩, _⟩ := h.next B0.out; rw [cell_of ht, hla]; rfl
  clear h hla
  obtain ⟨va, vb, vc, vd⟩ := v
  go_enter Try.func39, Try.ntmps39
  go_wp2
  go_ret
  exact ⟨rfl, B0.out⟩

theorem lay_full (h : RingAt w b pb m s) (hla : s.laid = false) (hf : s.free = 0) (v : Pk) :
    Calls Try.prog 39 #[.pointer (some ⟨b, 0, none⟩), pkv v] w fun e w' => e = .returned (.int .i64 7) ∧ Below w.heap.size w w' := by
  have B0 : Hid (Below w.heap.size w (w.alloc (.cells (pk4 v).toArray 33))) := box_below _ _
  have h4 : (w.alloc (.cells (pk4 v).toArray 33)).cell? ⟨b, 4, none⟩ = some (.bool false) := by obtain ⟨_, ⟨t, ht⟩, _⟩ := h.next B0.out; rw [cell_of ht, hla]; rfl
  have R := ring_room (h.next B0.out)
  rw [hf] at R
  clear h hla hf
  obtain ⟨va, vb, vc, vd⟩ := v
  go_enter Try.func39, Try.ntmps39
  go_wp2_with (go_at_call 32; refine R.mono ?_; rintro e w' ⟨rfl, n, rfl⟩)
  go_ret
  exact ⟨rfl, below_dn B0.out _⟩

def RingSt.lay (s : RingSt) (v : Pk) : RingSt := { s with laid := true, lv := v }

theorem at_laid (h : RingAt w b pb m s) (_hla : s.laid = false) (hlt : (s.xs.length : Int) < min (max s.room 1) 4096) (hm : s.xs.length < m) (v : Pk) :
    RingAt (((((w.setCell ⟨pb, s.i % m * 4, none⟩ (.int .i64 v.s)).setCell ⟨pb, s.i % m * 4 + 1, none⟩ (.int .i64 v.d)).setCell ⟨pb, s.i % m * 4 + 2, none⟩ (.int .i64 v.q)).setCell ⟨pb, s.i % m * 4 + 3, none⟩ (.string v.x)).setCell ⟨b, 4, none⟩ (.bool true)) b pb m (s.lay v) := by
  obtain ⟨ps, ⟨k, hk⟩, hm2, hne, hp, hpl, hcap, hxs, hlv⟩ := h.filled (by omega)
  obtain ⟨ok, ⟨t, ht⟩, h3⟩ := h
  obtain ⟨o1, o2, o3, o4⟩ := ok
  refine ⟨⟨o1, o2, o3, ?_⟩, ⟨t, ?_⟩, Or.inr ⟨ps.set (s.i % m) v, ⟨k, hk⟩, hm2, hne, ?_, by simpa using hpl, ?_, ?_, ?_⟩⟩
  · simp [RingSt.lay, one]; omega
  · refine (heap_set (c := #[.int .i64 s.room, pval pb m, .int .u32 (s.i : Int), .int .u32 (s.o : Int), .bool s.laid]) (t := t) (fr := (0, 0)) ((heap_set2_ne (s.i % m) v hne.symm).trans ht) 4 _).trans ?_
    simp [RingSt.lay]
  · rw [heap_set_ne _ hne]
    exact heap_set2 hp (s.i % m) v
  · simp [RingSt.lay, one]; omega
  · intro j hj
    have hj' : j < s.xs.length := hj
    show (ps.set (s.i % m) v)[(s.o + j) % m]? = s.xs[j]?
    rw [List.getElem?_set_ne]
    · exact hxs j hj'
    · intro d
      rw [← o3, mod32 hk hm2] at d
      have := dist (m := m) (o := s.o) (j := s.xs.length) (j' := j) hm (by omega) d
      omega
  · intro _
    show (ps.set (s.i % m) v)[s.i % m]? = some v
    rw [List.getElem?_set_self]
    rw [hpl]; exact Nat.mod_lt _ (by omega)

set_option maxHeartbeats 4000000 in
theorem lay_ok (h : RingAt w b pb m s) (hla : s.laid = false) (hlt : (s.xs.length : Int) < min (max s.room 1) 4096) (v : Pk) :
    Calls Try.prog 39 #[.pointer (some ⟨b, 0, none⟩), pkv v] w fun e w' => e = .returned (.int .i64 0) ∧ Stp b pb w w' (s.lay v) := by
  have B0 : Hid (Below w.heap.size w (w.alloc (.cells (pk4 v).toArray 33))) := box_below _ _
  have NB : Hid ((w.alloc (.cells (pk4 v).toArray 33)).heap[w.heap.size]? = some (.cells (pk4 v).toArray 33 (0, 0))) := heap_alloc_new w _
  have H0 := h.next B0.out
  have h4 : (w.alloc (.cells (pk4 v).toArray 33)).cell? ⟨b, 4, none⟩ = some (.bool false) := by obtain ⟨_, ⟨t, ht⟩, _⟩ := H0; rw [cell_of ht, hla]; rfl
  have R := ring_room H0
  have hfr : ¬ s.free = 0 := by rw [RingSt.free, hla, one]; simp; omega
  have W := fun n => ring_widen (H0.drewN n) hla hlt
  have hbw := h.lt
  obtain ⟨f, hf⟩ : ∃ f, f = s.free := ⟨_, rfl⟩
  rw [← hf] at R hfr
  have hfr2 : (f == 0) = false := by simpa using hfr
  have HLA : Hid (s.laid = false) := hla
  have HLT : Hid ((s.xs.length : Int) < min (max s.room 1) 4096) := hlt
  clear h H0 hla hlt hf hfr
  go_enter Try.func39, Try.ntmps39
  go_upto_region 1 with fail
  generalize hv0 : (w.alloc (.cells (pk4 v).toArray 33)) = v0 at *
  clear hv0
  go_wp2_with (go_at_call 32; refine R.mono ?_; rintro e w' ⟨rfl, n, rfl⟩)
  go_at_call 43
  refine (W _).mono ?_
  rintro e w1 ⟨rfl, nb, M, hR, hM, hnb, hF⟩
  have HR1 : Hid (RingAt w1 b nb M s) := hR
  have hM0 : 0 < M := by omega
  have hsz0 : w.heap.size < v0.heap.size := lt_of_heap NB.out
  have N1 : Hid (w1.heap[w.heap.size]? = some (.cells (pk4 v).toArray 33 (0, 0))) := show _ from by
    rw [hF.block w.heap.size (by simpa using hsz0) (by omega) (by omega)]
    exact NB.out
  have HFR : Hid (Fr b pb w w1) := show _ from by
    have : Fr b pb v0 w1 := ⟨hF.os, hF.tape, hF.output, hF.size, hF.block⟩
    exact (Fr.ofBelow B0.out (Nat.le_refl _) : Fr b pb w v0).trans this (Or.inl rfl)
  have HNB : Hid (nb = pb ∨ w.heap.size ≤ nb) := show _ from by
    rcases hnb with h | h
    · exact Or.inl h
    · exact Or.inr (by simp at h; omega)
  have HC : Hid (∀ V, RingAt V b nb M s → V.cell? ⟨b, 2, none⟩ = some (.int .u32 s.i) ∧ (∃ y, V.cell? ⟨b, 4, none⟩ = some y) ∧ V.frozen? ⟨b, 4, none⟩ = false ∧ (∃ y, V.cell? ⟨nb, s.i % M * 4, none⟩ = some y) ∧ (∃ y, V.cell? ⟨nb, s.i % M * 4 + 1, none⟩ = some y) ∧ (∃ y, V.cell? ⟨nb, s.i % M * 4 + 2, none⟩ = some y) ∧ (∃ y, V.cell? ⟨nb, s.i % M * 4 + 3, none⟩ = some y) ∧ V.frozen? ⟨nb, s.i % M * 4, none⟩ = false ∧ V.frozen? ⟨nb, s.i % M * 4 + 1, none⟩ = false ∧ V.frozen? ⟨nb, s.i % M * 4 + 2, none⟩ = false ∧ V.frozen? ⟨nb, s.i % M * 4 + 3, none⟩ = false) := show _ from fun V hV => by
    obtain ⟨ps, hf⟩ := hV.filled hM0
    obtain ⟨hc0, hc1, hc2, hc3⟩ := hf.cell (q := s.i % M) (v := ps[s.i % M]'(by rw [hf.2.2.2.2.1]; exact Nat.mod_lt _ hM0)) (List.getElem?_eq_getElem _)
    obtain ⟨_, ⟨t, ht⟩, _⟩ := hV
    exact ⟨by rw [cell_of ht]; rfl, ⟨_, by rw [cell_of ht]; rfl⟩, frozen_of ht 4, ⟨_, hc0⟩, ⟨_, hc1⟩, ⟨_, hc2⟩, ⟨_, hc3⟩, frozen_of hf.2.2.2.1 _, frozen_of hf.2.2.2.1 _, frozen_of hf.2.2.2.1 _, frozen_of hf.2.2.2.1 _⟩
  have hne : nb ≠ b := by
    obtain ⟨ps, hf⟩ := hR.filled hM0
    exact hf.2.2.1
  have HP : Hid (∀ V, RingAt V b nb M s → Calls Try.prog 42 #[.pointer (some ⟨b, 0, none⟩), .int .u32 s.i] V fun e w' => e = .returned (.pointer (some ⟨nb, s.i % M * 4, none⟩)) ∧ ∃ n, w' = V.drewN n) := show _ from fun V hV => ring_place hV hM0 s.i hR.1.hi
  have HAL : Hid (∀ V, RingAt V b nb M s → RingAt (((((V.setCell ⟨nb, s.i % M * 4, none⟩ (.int .i64 v.s)).setCell ⟨nb, s.i % M * 4 + 1, none⟩ (.int .i64 v.d)).setCell ⟨nb, s.i % M * 4 + 2, none⟩ (.int .i64 v.q)).setCell ⟨nb, s.i % M * 4 + 3, none⟩ (.string v.x)).setCell ⟨b, 4, none⟩ (.bool true)) b nb M (s.lay v)) := show _ from fun V hV => at_laid hV HLA.out HLT.out hM v
  obtain ⟨q, hq⟩ : ∃ q, s.i % M * 4 = q := ⟨_, rfl⟩
  rw [hq] at HC HP HAL
  clear R W hF hR hnb hq hM hM0 h4
  obtain ⟨va, vb, vc, vd⟩ := v
  simp only at HAL N1
  generalize hsl : s.lay ⟨va, vb, vc, vd⟩ = sl at *
  have HSL : Hid (s.lay ⟨va, vb, vc, vd⟩ = sl) := hsl
  clear hsl
  generalize (s.i : Int) = si at *
  go_upto_region 8 with fail
  have SS : Hid (∀ n, (fun V : World => V.cell? ⟨b, 2, none⟩ = some (.int .u32 si) ∧ V.cell? ⟨w.heap.size, 0, none⟩ = some (.int .i64 va) ∧ V.cell? ⟨w.heap.size, 1, none⟩ = some (.int .i64 vb) ∧ V.cell? ⟨w.heap.size, 2, none⟩ = some (.int .i64 vc) ∧ V.cell? ⟨w.heap.size, 3, none⟩ = some (.string vd)) (w1.drewN n)) := show _ from fun n => ⟨(HC.out _ (HR1.out.drewN n)).1, (cell_of N1.out 0).trans rfl, (cell_of N1.out 1).trans rfl, (cell_of N1.out 2).trans rfl, (cell_of N1.out 3).trans rfl⟩
  have S0 : (fun V : World => V.cell? ⟨b, 2, none⟩ = some (.int .u32 si) ∧ V.cell? ⟨w.heap.size, 0, none⟩ = some (.int .i64 va) ∧ V.cell? ⟨w.heap.size, 1, none⟩ = some (.int .i64 vb) ∧ V.cell? ⟨w.heap.size, 2, none⟩ = some (.int .i64 vc) ∧ V.cell? ⟨w.heap.size, 3, none⟩ = some (.string vd)) w1.drew := SS.out 1
  refine wp_region_G (fun V : World => V.cell? ⟨b, 2, none⟩ = some (.int .u32 si) ∧ V.cell? ⟨w.heap.size, 0, none⟩ = some (.int .i64 va) ∧ V.cell? ⟨w.heap.size, 1, none⟩ = some (.int .i64 vb) ∧ V.cell? ⟨w.heap.size, 2, none⟩ = some (.int .i64 vc) ∧ V.cell? ⟨w.heap.size, 3, none⟩ = some (.string vd)) 8 (by kernel_rfl) ?_
  refine wpAnyG_take [8] (some 19) (i := 0) (v := ?v0) rfl rfl (by kernel_rfl) (by kernel_rfl) (by kernel_rfl) (by kernel_rfl) (fun _ _ _ h => h) (Or.inl ⟨by rfl, ?y0⟩) S0 ?r0
  case y0 => (intro V hSV; obtain ⟨d0, d1, d2, d3, d4⟩ := hSV; go_simp; try with_reducible rfl)
  simp only [Act.put, List.setIfInBounds_toArray, List.set_cons_zero, List.set_cons_succ]
  refine wpAnyG_take [8] (some 20) (i := 1) (v := ?v1) rfl rfl (by kernel_rfl) (by kernel_rfl) (by kernel_rfl) (by kernel_rfl) (fun _ _ _ h => h) (Or.inl ⟨by rfl, ?y1⟩) S0 ?r1
  case y1 => (intro V hSV; obtain ⟨d0, d1, d2, d3, d4⟩ := hSV; go_simp; try with_reducible rfl)
  simp only [Act.put, List.setIfInBounds_toArray, List.set_cons_zero, List.set_cons_succ]
  refine wpAnyG_take [8] (some 21) (i := 2) (v := ?v2) rfl rfl (by kernel_rfl) (by kernel_rfl) (by kernel_rfl) (by kernel_rfl) (fun _ _ _ h => h) (Or.inl ⟨by rfl, ?y2⟩) S0 ?r2
  case y2 => (intro V hSV; obtain ⟨d0, d1, d2, d3, d4⟩ := hSV; go_simp; try with_reducible rfl)
  simp only [Act.put, List.setIfInBounds_toArray, List.set_cons_zero, List.set_cons_succ]
  refine wpAnyG_take [8] (some 22) (i := 3) (v := ?v3) rfl rfl (by kernel_rfl) (by kernel_rfl) (by kernel_rfl) (by kernel_rfl) (fun _ _ _ h => h) (Or.inl ⟨by rfl, ?y3⟩) S0 ?r3
  case y3 => (intro V hSV; obtain ⟨d0, d1, d2, d3, d4⟩ := hSV; go_simp; try with_reducible rfl)
  simp only [Act.put, List.setIfInBounds_toArray, List.set_cons_zero, List.set_cons_succ]
  refine wpAnyG_take [8] (some 23) (i := 4) (v := ?v4) rfl rfl (by kernel_rfl) (by kernel_rfl) (by kernel_rfl) (by kernel_rfl) (fun _ _ _ h => h) (Or.inl ⟨by rfl, ?y4⟩) S0 ?r4
  case y4 => (intro V hSV; obtain ⟨d0, d1, d2, d3, d4⟩ := hSV; go_simp; try with_reducible rfl)
  simp only [Act.put, List.setIfInBounds_toArray, List.set_cons_zero, List.set_cons_succ]
  refine wpAnyG_take [8] (some 25) (i := 6) (v := ?v6) rfl rfl (by kernel_rfl) (by kernel_rfl) (by kernel_rfl) (by kernel_rfl) (fun _ _ _ h => h) (Or.inl ⟨by rfl, ?y6⟩) S0 ?r6
  case y6 => (intro V hSV; obtain ⟨d0, d1, d2, d3, d4⟩ := hSV; go_simp; try with_reducible rfl)
  simp only [Act.put, List.setIfInBounds_toArray, List.set_cons_zero, List.set_cons_succ]
  have FD : RingAt w1.drew b nb M s := HR1.out.drewN 1
  refine wpAnyG_one (i := 5) (by kernel_rfl) rfl (fun K hK => ?_)
  go_simp
  with_reducible refine (HP.out w1.drew FD).mono ?_
  rintro e w' ⟨rfl, n2, rfl⟩
  have F2 : Hid (RingAt (w1.drew.drewN n2) b nb M s) := FD.drewN n2
  have S2 : (fun V : World => V.cell? ⟨b, 2, none⟩ = some (.int .u32 si) ∧ V.cell? ⟨w.heap.size, 0, none⟩ = some (.int .i64 va) ∧ V.cell? ⟨w.heap.size, 1, none⟩ = some (.int .i64 vb) ∧ V.cell? ⟨w.heap.size, 2, none⟩ = some (.int .i64 vc) ∧ V.cell? ⟨w.heap.size, 3, none⟩ = some (.string vd)) (w1.drew.drewN n2) := ⟨(HC.out _ F2.out).1, (cell_of N1.out 0).trans rfl, (cell_of N1.out 1).trans rfl, (cell_of N1.out 2).trans rfl, (cell_of N1.out 3).trans rfl⟩
  refine hK.out _ _ (Or.inr S2) ?_
  clear hK K S0 SS
  have HF2 : Hid (Fr b pb w (w1.drew.drewN n2)) := (HFR.out.drewN 1).drewN n2
  generalize w1.drew.drewN n2 = u at *
  refine wpAnyG_one (i := 7) (by kernel_rfl) rfl (fun K hK => ?_)
  go_simp
  refine hK.out _ _ (Or.inr S2) ?_
  clear hK K
  obtain ⟨-, ⟨y4, g4⟩, f4, ⟨y0, g0⟩, ⟨y1, g1⟩, ⟨y2, g2⟩, ⟨y3, g3⟩, f0, f1, f2, f3⟩ := HC.out u F2.out
  refine wpAnyG_one (i := 8) (by kernel_rfl) rfl (fun K hK => ?_)
  go_simp
  refine hK.out _ _ (Or.inl (by kernel_rfl)) ?_
  clear hK K S2
  refine wpAnyG_done (by kernel_rfl) ?_ _
  go_wp2
  go_ret
  refine ⟨rfl, nb, M, by rw [HSL.out]; exact HAL.out u F2.out, ?_, HNB.out⟩
  exact ((((HF2.out.setCell (by have := HNB.out; exact Or.inr this) _).setCell (by have := HNB.out; exact Or.inr this) _).setCell (by have := HNB.out; exact Or.inr this) _).setCell (by have := HNB.out; exact Or.inr this) _).set0 _ _

end
end Go.Proofs.Ytpmkpjnhdehnhaa.RP
