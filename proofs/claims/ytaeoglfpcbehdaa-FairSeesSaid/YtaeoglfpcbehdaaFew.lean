/-
  Rows of truths; the walk of the law's few.
-/
import Derived.Test.YtaeoglfpcbehdaaFOf
import Derived.Test.YtaeoglfpcbehdaaStage
namespace Go.Proofs.Ytaeoglfpcbehdaa
open Go.RowKit

/-- A row of truths as a slice: where, which, how much room. -/
structure BR where
  a : Option Addr
  l : List Bool
  c : Nat
def brv (r : BR) : Value := .slice r.a r.l.length r.c
def brs (R : List BR) : List Value := R.map brv
theorem brs_len (R : List BR) : (brs R).length = R.length := List.length_map ..
theorem brs_at {R : List BR} {k : Nat} (h : k < R.length) : (brs R)[k]? = some (brv R[k]) := by
  unfold brs
  rw [List.getElem?_map, List.getElem?_eq_getElem h]
  rfl
def BRok (w : World) (r : BR) : Prop := Rd w r.a (vb r.l) ∧ r.l.length ≤ r.c ∧ r.c ≤ maxLen
theorem BRok.below {w w' : World} {r : BR} (h : BRok w r) (b : Below w.heap.size w w') : BRok w' r := ⟨h.1.below b, h.2⟩
def few1 (r : BR) : BR := ⟨r.a, r.l.take 20, r.c⟩
def fewR (R : List BR) : List BR := (R.take 40).map few1
theorem few1_ok {w : World} {r : BR} (h : BRok w r) : BRok w (few1 r) := by
  refine ⟨?_, ?_, h.2.2⟩
  · show Rd w r.a (vb (r.l.take 20))
    rw [← vb_take]
    exact h.1.take 20
  · show (r.l.take 20).length ≤ r.c
    rw [List.length_take]
    have := h.2.1
    omega
theorem fewR_ok {w : World} {R : List BR} (h : ∀ r ∈ R, BRok w r) : ∀ r ∈ fewR R, BRok w r ∧ r.l.length ≤ 20 := by
  intro r hr
  obtain ⟨q, hq, rfl⟩ := List.mem_map.1 hr
  refine ⟨few1_ok (h q (List.mem_of_mem_take hq)), ?_⟩
  show (q.l.take 20).length ≤ 20
  rw [List.length_take]
  omega
theorem fewR_len (R : List BR) : (fewR R).length ≤ 40 := by
  unfold fewR
  rw [List.length_map, List.length_take]
  omega
theorem few_snoc {R : List BR} {i : Nat} (h : i < R.length) : brs ((R.take i).map few1) ++ [brv (few1 R[i])] = brs ((R.take (i + 1)).map few1) := by
  rw [List.take_add_one, List.getElem?_eq_getElem h, Option.toList_some, List.map_append]
  unfold brs
  rw [List.map_append]
  rfl
theorem few_end {R : List BR} {i : Nat} (h : i ≤ R.length) (h4 : i ≤ 40) (he : i = R.length ∨ i = 40) : (R.take i).map few1 = fewR R := by
  unfold fewR
  rcases he with rfl | rfl
  · rw [List.take_length, List.take_of_length_le h4]
  · rfl
theorem Try.info34 : (Try.prog.info? 34).map (fun i => (i.zero, i.size, i.bytes)) = some (some (.slice none 0 0), 1, 24) := by kernel_rfl

set_option maxRecDepth 100000 in
set_option maxHeartbeats 8000000 in
theorem few_any (R : List BR) (a : Option Addr) (c : Nat) (w : World) (hr : Rd w a (brs R)) (ho : ∀ r ∈ R, BRok w r) (_hm : R.length ≤ maxLen) :
    Calls Try.prog 12 #[.slice a R.length c] w fun e w' => ∃ v, e = .returned v ∧ Own 34 w' w.heap.size v (brs (fewR R)) ∧ Below w.heap.size w w' := by
  obtain ⟨i0, ki, hz0, hz1, hz2⟩ := info_parts Try.info34
  have HR : Hid (Rd w a (brs R)) := hr
  have HO : Hid (∀ r ∈ R, BRok w r) := ho
  have HE : Hid (∀ i, i ≤ R.length → i ≤ 40 → (i = R.length ∨ i = 40) → (R.take i).map few1 = fewR R) := show _ from fun i h1 h2 h3 => few_end h1 h2 h3
  generalize fewR R = F at *
  clear hr ho
  go_enter Try.func12, Try.ntmps12
  go_wp2_with fail
  go_loopw [3, 4] (fun v x wr => ∃ i : Nat, i ≤ R.length ∧ i ≤ 40 ∧ x = .int .i64 i ∧ Own 34 wr w.heap.size v (brs ((R.take i).map few1)) ∧ Below w.heap.size w wr) (fun _ x _ => 40 - (RowKit.intOf x).toNat)
  case atStart => exact ⟨0, Nat.zero_le _, Nat.zero_le _, rfl, Own.nil _ _ _, Below.refl _ _⟩
  case round =>
    obtain ⟨i, hi, hi4, rfl, own, hb⟩ := hrel
    obtain ⟨v, rfl⟩ : ∃ v, v = u3 := ⟨_, rfl⟩
    have HW : Hid (Own 34 wr w.heap.size v (brs ((R.take i).map few1))) := own
    have HB : Hid (Below w.heap.size w wr) := hb
    clear own hb
    by_cases hlt : i < R.length
    case neg =>
      have e1 : ¬ (i : Int) < (R.length : Int) := by omega
      have hF := HE.out i hi hi4 (Or.inl (by omega))
      go_wp2
      go_ret
      exact ⟨_, rfl, by rw [← hF]; exact HW.out, HB.out⟩
    have e1 : (i : Int) < (R.length : Int) := by omega
    by_cases h40 : i < 40
    case neg =>
      have e2 : ¬ (i : Int) < 40 := by omega
      have hF := HE.out i hi hi4 (Or.inr (by omega))
      go_wp2
      go_ret
      exact ⟨_, rfl, by rw [← hF]; exact HW.out, HB.out⟩
    have e2 : (i : Int) < 40 := by omega
    have e3 : (0 : Int) ≤ (i : Int) := by omega
    obtain ⟨g, o, rfl, hg, c0'⟩ := HR.out i _ (brs_at hlt)
    obtain ⟨hok, hnc, hcm⟩ := HO.out _ (List.getElem_mem hlt)
    have hsn := few_snoc hlt
    generalize R[i] = r at *
    have hxl : (brs ((R.take i).map few1)).length ≤ 1000 := by rw [brs_len, List.length_map, List.length_take]; omega
    obtain ⟨ra, rl, rc⟩ := r
    simp only [brv] at c0'
    simp only at hok hnc hcm
    obtain ⟨k, hk⟩ : ∃ k, (rl.take 20).length = k := ⟨_, rfl⟩
    have HSN : Hid (brs ((R.take i).map few1) ++ [.slice ra k rc] = brs ((R.take (i + 1)).map few1)) := show _ from by
      rw [← hk]
      exact hsn
    rw [List.length_take] at hk
    generalize brs ((R.take i).map few1) = X at *
    generalize rl.length = n at *
    unfold maxLen at hcm
    have c0 := (HB.out.cell (p := ⟨g, o + i, none⟩) hg).trans c0'
    have SS : Hid (∀ V, Below w.heap.size w V → V.cell? ⟨g, o + i, none⟩ = some (.slice ra n rc)) := show _ from fun V h => (h.cell (p := ⟨g, o + i, none⟩) hg).trans c0'
    have e4 : (n : Int) ≤ (rc : Int) := by omega
    have e5 : (0 : Int) ≤ (n : Int) := by omega
    clear hsn c0' hok
    go_upto_region 5 with fail
    have S0 : (fun V : World => V.cell? ⟨g, o + i, none⟩ = some (.slice ra n rc)) wr.drew := SS.out _ HB.out.drew
    by_cases hc : n ≤ 20
    · obtain rfl : n = k := by omega
      have f1 : ¬ (20 : Int) < (n : Int) := by omega
      have f2 : (n : Int) ≤ 20 := by omega
      refine wp_region_G (fun V : World => V.cell? ⟨g, o + i, none⟩ = some (.slice ra n rc)) 14 (by kernel_rfl) ?_
      clear hk
      refine wpAnyG_take [14] (some 15) (i := 0) (v := ?vp0) rfl rfl (by kernel_rfl) (by kernel_rfl) (by kernel_rfl) (by kernel_rfl) (fun _ _ _ h => h) (Or.inl ⟨by rfl, ?yp0⟩) S0 ?rp0
      case yp0 => (intro V hSV; have d0 := hSV; clear hSV; go_simp; try with_reducible rfl)
      simp only [Act.put, List.setIfInBounds_toArray, List.set_cons_zero, List.set_cons_succ]
      refine wpAnyG_take [14] (some 16) (i := 1) (v := ?vp1) rfl rfl (by kernel_rfl) (by kernel_rfl) (by kernel_rfl) (by kernel_rfl) (fun _ _ _ h => h) (Or.inl ⟨by rfl, ?yp1⟩) S0 ?rp1
      case yp1 => (intro V hSV; have d0 := hSV; clear hSV; go_simp; try with_reducible rfl)
      simp only [Act.put, List.setIfInBounds_toArray, List.set_cons_zero, List.set_cons_succ]
      refine wpAnyG_take [14] (some 17) (i := 2) (v := ?vp2) rfl rfl (by kernel_rfl) (by kernel_rfl) (by kernel_rfl) (by kernel_rfl) (fun _ _ _ h => h) (Or.inl ⟨by rfl, ?yp2⟩) S0 ?rp2
      case yp2 => (intro V hSV; have d0 := hSV; clear hSV; go_simp; try with_reducible rfl)
      simp only [Act.put, List.setIfInBounds_toArray, List.set_cons_zero, List.set_cons_succ]
      refine wpAnyG_take [14] (some 18) (i := 3) (v := ?vp3) rfl rfl (by kernel_rfl) (by kernel_rfl) (by kernel_rfl) (by kernel_rfl) (fun _ _ _ h => h) (Or.inl ⟨by rfl, ?yp3⟩) S0 ?rp3
      case yp3 => (intro V hSV; have d0 := hSV; clear hSV; go_simp; try with_reducible rfl)
      simp only [Act.put, List.setIfInBounds_toArray, List.set_cons_zero, List.set_cons_succ]
      refine wpAnyG_take [14] (some 19) (i := 4) (v := ?vp4) rfl rfl (by kernel_rfl) (by kernel_rfl) (by kernel_rfl) (by kernel_rfl) (fun _ _ _ h => h) (Or.inl ⟨by rfl, ?yp4⟩) S0 ?rp4
      case yp4 => (intro V hSV; have d0 := hSV; clear hSV; go_simp; try with_reducible rfl)
      simp only [Act.put, List.setIfInBounds_toArray, List.set_cons_zero, List.set_cons_succ]
      refine wpAnyG_take [14] (some 20) (i := 5) (v := ?vp5) rfl rfl (by kernel_rfl) (by kernel_rfl) (by kernel_rfl) (by kernel_rfl) (fun _ _ _ h => h) (Or.inl ⟨by rfl, ?yp5⟩) S0 ?rp5
      case yp5 => (intro V hSV; have d0 := hSV; clear hSV; go_simp; try with_reducible rfl)
      simp only [Act.put, List.setIfInBounds_toArray, List.set_cons_zero, List.set_cons_succ]
      refine wpAnyG_take [14] (some 21) (i := 6) (v := ?vp6) rfl rfl (by kernel_rfl) (by kernel_rfl) (by kernel_rfl) (by kernel_rfl) (fun _ _ _ h => h) (Or.inl ⟨by rfl, ?yp6⟩) S0 ?rp6
      case yp6 => (intro V hSV; have d0 := hSV; clear hSV; go_simp; try with_reducible rfl)
      simp only [Act.put, List.setIfInBounds_toArray, List.set_cons_zero, List.set_cons_succ]
      refine wpAnyG_take [14] (some 22) (i := 7) (v := ?vp7) rfl rfl (by kernel_rfl) (by kernel_rfl) (by kernel_rfl) (by kernel_rfl) (fun _ _ _ h => h) (Or.inl ⟨by rfl, ?yp7⟩) S0 ?rp7
      case yp7 => (intro V hSV; have d0 := hSV; clear hSV; go_simp; try with_reducible rfl)
      simp only [Act.put, List.setIfInBounds_toArray, List.set_cons_zero, List.set_cons_succ]
      refine wpAnyG_take [14] (some 23) (i := 8) (v := ?vp8) rfl rfl (by kernel_rfl) (by kernel_rfl) (by kernel_rfl) (by kernel_rfl) (fun _ _ _ h => h) (Or.inl ⟨by rfl, ?yp8⟩) S0 ?rp8
      case yp8 => (intro V hSV; have d0 := hSV; clear hSV; go_simp; try with_reducible rfl)
      simp only [Act.put, List.setIfInBounds_toArray, List.set_cons_zero, List.set_cons_succ]
      refine wpAnyG_take [14] (some 24) (i := 9) (v := ?vp9) rfl rfl (by kernel_rfl) (by kernel_rfl) (by kernel_rfl) (by kernel_rfl) (fun _ _ _ h => h) (Or.inl ⟨by rfl, ?yp9⟩) S0 ?rp9
      case yp9 => (intro V hSV; have d0 := hSV; clear hSV; go_simp; try with_reducible rfl)
      simp only [Act.put, List.setIfInBounds_toArray, List.set_cons_zero, List.set_cons_succ]
      refine wpAnyG_take [14] (some 25) (i := 10) (v := ?vp10) rfl rfl (by kernel_rfl) (by kernel_rfl) (by kernel_rfl) (by kernel_rfl) (fun _ _ _ h => h) (Or.inl ⟨by rfl, ?yp10⟩) S0 ?rp10
      case yp10 => (intro V hSV; have d0 := hSV; clear hSV; go_simp; try with_reducible rfl)
      simp only [Act.put, List.setIfInBounds_toArray, List.set_cons_zero, List.set_cons_succ]
      refine wpAnyG_take [14] (some 26) (i := 11) (v := ?vp11) rfl rfl (by kernel_rfl) (by kernel_rfl) (by kernel_rfl) (by kernel_rfl) (fun _ _ _ h => h) (Or.inl ⟨by rfl, ?yp11⟩) S0 ?rp11
      case yp11 => (intro V hSV; have d0 := hSV; clear hSV; go_simp; try with_reducible rfl)
      simp only [Act.put, List.setIfInBounds_toArray, List.set_cons_zero, List.set_cons_succ]
      refine wpAnyG_one (i := 12) (by kernel_rfl) rfl (fun K hK => ?_)
      go_simp
      have N0 : Hid (Bk (wr.drew.alloc (.cells #[.slice ra n rc] 34)) wr.heap.size #[.slice ra n rc] 34) := Bk.new _ _ _
      have X0 : Hid (Below wr.heap.size wr (wr.drew.alloc (.cells #[.slice ra n rc] 34))) := ((Below.refl _ _).drew).alloc (Nat.le_refl _) _
      have hbs : Below w.heap.size w (wr.drew.alloc (.cells #[.slice ra n rc] 34)) := HB.out.trans (X0.out.mono HB.out.size)
      refine hK.out _ _ (Or.inr (SS.out _ hbs)) ?_
      clear hK K
      have own : Own 34 (wr.drew.alloc (.cells #[.slice ra n rc] 34)) w.heap.size v X := own_next HW.out X0.out
      have hcell : ∀ j u, [Value.slice ra n rc][j]? = some u → (wr.drew.alloc (.cells #[.slice ra n rc] 34)).cell? ⟨wr.heap.size, j, none⟩ = some u := fun j u hj => by
        rw [N0.out.cell j]
        simpa using hj
      have hsz : w.heap.size ≤ (wr.drew.alloc (.cells #[.slice ra n rc] 34)).heap.size := Nat.le_trans HB.out.size X0.out.size
      refine wpAnyG_one (i := 13) (by kernel_rfl) rfl (fun K hK => ?_)
      refine step_app_k rfl (.tmp 15) (.tmp 27) 22 34 i0 (.slice none 0 0) 1 24 rfl Try.underlying22 ki hz0 hz1 hz2 rfl (by decide) (by decide) w.heap.size _ v X.length X [.slice ra n rc] wr.heap.size rfl own rfl rfl hcell (by intro u hu; simp at hu; subst hu; rfl) (by omega) hsz ?_
      intro v2 w2 o2 g2
      have hbl : Below w.heap.size w w2 := hbs.grown g2 hsz (fun q hq => (OwnK.lt (k := 1) own hq).1)
      refine hK.out _ _ (Or.inr (SS.out _ hbl)) ?_
      clear hK K
      refine wpAnyG_one (i := 14) (by kernel_rfl) rfl (fun K hK => ?_)
      go_simp
      refine hK.out _ _ (Or.inl (by kernel_rfl)) ?_
      clear hK K
      refine wpAnyG_done (by kernel_rfl) ?_ _
      go_wp2
      go_roundw
      case rel => exact ⟨i + 1, by omega, by omega, by go_num, by rw [← HSN.out]; exact Own.snoc o2, hbl⟩
      case measure => simp [RowKit.intOf]; omega
    · obtain rfl : 20 = k := by omega
      have f1 : (20 : Int) < (n : Int) := by omega
      have f2 : ¬ (n : Int) ≤ 20 := by omega
      have f3 : ¬ (n : Int) < 20 := by omega
      have f4 : (20 : Int) ≤ (rc : Int) := by omega
      refine wp_region_G (fun V : World => V.cell? ⟨g, o + i, none⟩ = some (.slice ra n rc)) 14 (by kernel_rfl) ?_
      clear hk
      refine wpAnyG_take [14] (some 15) (i := 0) (v := ?vq0) rfl rfl (by kernel_rfl) (by kernel_rfl) (by kernel_rfl) (by kernel_rfl) (fun _ _ _ h => h) (Or.inl ⟨by rfl, ?yq0⟩) S0 ?rq0
      case yq0 => (intro V hSV; have d0 := hSV; clear hSV; go_simp; try with_reducible rfl)
      simp only [Act.put, List.setIfInBounds_toArray, List.set_cons_zero, List.set_cons_succ]
      refine wpAnyG_take [14] (some 16) (i := 1) (v := ?vq1) rfl rfl (by kernel_rfl) (by kernel_rfl) (by kernel_rfl) (by kernel_rfl) (fun _ _ _ h => h) (Or.inl ⟨by rfl, ?yq1⟩) S0 ?rq1
      case yq1 => (intro V hSV; have d0 := hSV; clear hSV; go_simp; try with_reducible rfl)
      simp only [Act.put, List.setIfInBounds_toArray, List.set_cons_zero, List.set_cons_succ]
      refine wpAnyG_take [14] (some 17) (i := 2) (v := ?vq2) rfl rfl (by kernel_rfl) (by kernel_rfl) (by kernel_rfl) (by kernel_rfl) (fun _ _ _ h => h) (Or.inl ⟨by rfl, ?yq2⟩) S0 ?rq2
      case yq2 => (intro V hSV; have d0 := hSV; clear hSV; go_simp; try with_reducible rfl)
      simp only [Act.put, List.setIfInBounds_toArray, List.set_cons_zero, List.set_cons_succ]
      refine wpAnyG_take [14] (some 18) (i := 3) (v := ?vq3) rfl rfl (by kernel_rfl) (by kernel_rfl) (by kernel_rfl) (by kernel_rfl) (fun _ _ _ h => h) (Or.inl ⟨by rfl, ?yq3⟩) S0 ?rq3
      case yq3 => (intro V hSV; have d0 := hSV; clear hSV; go_simp; try with_reducible rfl)
      simp only [Act.put, List.setIfInBounds_toArray, List.set_cons_zero, List.set_cons_succ]
      refine wpAnyG_take [14] (some 19) (i := 4) (v := ?vq4) rfl rfl (by kernel_rfl) (by kernel_rfl) (by kernel_rfl) (by kernel_rfl) (fun _ _ _ h => h) (Or.inl ⟨by rfl, ?yq4⟩) S0 ?rq4
      case yq4 => (intro V hSV; have d0 := hSV; clear hSV; go_simp; try with_reducible rfl)
      simp only [Act.put, List.setIfInBounds_toArray, List.set_cons_zero, List.set_cons_succ]
      refine wpAnyG_take [14] (some 20) (i := 5) (v := ?vq5) rfl rfl (by kernel_rfl) (by kernel_rfl) (by kernel_rfl) (by kernel_rfl) (fun _ _ _ h => h) (Or.inl ⟨by rfl, ?yq5⟩) S0 ?rq5
      case yq5 => (intro V hSV; have d0 := hSV; clear hSV; go_simp; try with_reducible rfl)
      simp only [Act.put, List.setIfInBounds_toArray, List.set_cons_zero, List.set_cons_succ]
      refine wpAnyG_take [14] (some 21) (i := 6) (v := ?vq6) rfl rfl (by kernel_rfl) (by kernel_rfl) (by kernel_rfl) (by kernel_rfl) (fun _ _ _ h => h) (Or.inl ⟨by rfl, ?yq6⟩) S0 ?rq6
      case yq6 => (intro V hSV; have d0 := hSV; clear hSV; go_simp; try with_reducible rfl)
      simp only [Act.put, List.setIfInBounds_toArray, List.set_cons_zero, List.set_cons_succ]
      refine wpAnyG_take [14] (some 22) (i := 7) (v := ?vq7) rfl rfl (by kernel_rfl) (by kernel_rfl) (by kernel_rfl) (by kernel_rfl) (fun _ _ _ h => h) (Or.inl ⟨by rfl, ?yq7⟩) S0 ?rq7
      case yq7 => (intro V hSV; have d0 := hSV; clear hSV; go_simp; try with_reducible rfl)
      simp only [Act.put, List.setIfInBounds_toArray, List.set_cons_zero, List.set_cons_succ]
      refine wpAnyG_take [14] (some 23) (i := 8) (v := ?vq8) rfl rfl (by kernel_rfl) (by kernel_rfl) (by kernel_rfl) (by kernel_rfl) (fun _ _ _ h => h) (Or.inl ⟨by rfl, ?yq8⟩) S0 ?rq8
      case yq8 => (intro V hSV; have d0 := hSV; clear hSV; go_simp; try with_reducible rfl)
      simp only [Act.put, List.setIfInBounds_toArray, List.set_cons_zero, List.set_cons_succ]
      refine wpAnyG_take [14] (some 24) (i := 9) (v := ?vq9) rfl rfl (by kernel_rfl) (by kernel_rfl) (by kernel_rfl) (by kernel_rfl) (fun _ _ _ h => h) (Or.inl ⟨by rfl, ?yq9⟩) S0 ?rq9
      case yq9 => (intro V hSV; have d0 := hSV; clear hSV; go_simp; try with_reducible rfl)
      simp only [Act.put, List.setIfInBounds_toArray, List.set_cons_zero, List.set_cons_succ]
      refine wpAnyG_take [14] (some 25) (i := 10) (v := ?vq10) rfl rfl (by kernel_rfl) (by kernel_rfl) (by kernel_rfl) (by kernel_rfl) (fun _ _ _ h => h) (Or.inl ⟨by rfl, ?yq10⟩) S0 ?rq10
      case yq10 => (intro V hSV; have d0 := hSV; clear hSV; go_simp; try with_reducible rfl)
      simp only [Act.put, List.setIfInBounds_toArray, List.set_cons_zero, List.set_cons_succ]
      refine wpAnyG_take [14] (some 26) (i := 11) (v := ?vq11) rfl rfl (by kernel_rfl) (by kernel_rfl) (by kernel_rfl) (by kernel_rfl) (fun _ _ _ h => h) (Or.inl ⟨by rfl, ?yq11⟩) S0 ?rq11
      case yq11 => (intro V hSV; have d0 := hSV; clear hSV; go_simp; try with_reducible rfl)
      simp only [Act.put, List.setIfInBounds_toArray, List.set_cons_zero, List.set_cons_succ]
      refine wpAnyG_one (i := 12) (by kernel_rfl) rfl (fun K hK => ?_)
      go_simp
      have N0 : Hid (Bk (wr.drew.alloc (.cells #[.slice ra 20 rc] 34)) wr.heap.size #[.slice ra 20 rc] 34) := Bk.new _ _ _
      have X0 : Hid (Below wr.heap.size wr (wr.drew.alloc (.cells #[.slice ra 20 rc] 34))) := ((Below.refl _ _).drew).alloc (Nat.le_refl _) _
      have hbs : Below w.heap.size w (wr.drew.alloc (.cells #[.slice ra 20 rc] 34)) := HB.out.trans (X0.out.mono HB.out.size)
      refine hK.out _ _ (Or.inr (SS.out _ hbs)) ?_
      clear hK K
      have own : Own 34 (wr.drew.alloc (.cells #[.slice ra 20 rc] 34)) w.heap.size v X := own_next HW.out X0.out
      have hcell : ∀ j u, [Value.slice ra 20 rc][j]? = some u → (wr.drew.alloc (.cells #[.slice ra 20 rc] 34)).cell? ⟨wr.heap.size, j, none⟩ = some u := fun j u hj => by
        rw [N0.out.cell j]
        simpa using hj
      have hsz : w.heap.size ≤ (wr.drew.alloc (.cells #[.slice ra 20 rc] 34)).heap.size := Nat.le_trans HB.out.size X0.out.size
      refine wpAnyG_one (i := 13) (by kernel_rfl) rfl (fun K hK => ?_)
      refine step_app_k rfl (.tmp 15) (.tmp 27) 22 34 i0 (.slice none 0 0) 1 24 rfl Try.underlying22 ki hz0 hz1 hz2 rfl (by decide) (by decide) w.heap.size _ v X.length X [.slice ra 20 rc] wr.heap.size rfl own rfl rfl hcell (by intro u hu; simp at hu; subst hu; rfl) (by omega) hsz ?_
      intro v2 w2 o2 g2
      have hbl : Below w.heap.size w w2 := hbs.grown g2 hsz (fun q hq => (OwnK.lt (k := 1) own hq).1)
      refine hK.out _ _ (Or.inr (SS.out _ hbl)) ?_
      clear hK K
      refine wpAnyG_one (i := 14) (by kernel_rfl) rfl (fun K hK => ?_)
      go_simp
      refine hK.out _ _ (Or.inl (by kernel_rfl)) ?_
      clear hK K
      refine wpAnyG_done (by kernel_rfl) ?_ _
      go_wp2
      go_roundw
      case rel => exact ⟨i + 1, by omega, by omega, by go_num, by rw [← HSN.out]; exact Own.snoc o2, hbl⟩
      case measure => simp [RowKit.intOf]; omega
end Go.Proofs.Ytaeoglfpcbehdaa
