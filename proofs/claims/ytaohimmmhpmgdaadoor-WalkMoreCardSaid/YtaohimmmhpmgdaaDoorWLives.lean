/-
  The walks of few, small, some and lives; rows that are answered, as slices.
-/
import Derived.Test.YtaohimmmhpmgdaaDoorRwork
import Derived.Test.YtaohimmmhpmgdaaDoorNodeS
import Derived.Test.YtaohimmmhpmgdaaDoorFar
namespace Go.Proofs.YtaohimmmhpmgdaaDoor
open Go.RowKit

theorem few_any (s : Option Addr) (n cap k : Nat) (w : World) (h : n ≤ cap) (hk : min n 20 = k) : Calls Tryd.prog 17 #[.slice s n cap] w fun e w' => e = .returned (.slice s k cap) ∧ w' = w := by
  by_cases hc : n ≤ 20
  · obtain rfl : n = k := by omega
    have c1 : ¬ (20 : Int) < (n : Int) := by omega
    have c2 : (n : Int) ≤ 20 := by omega
    have h1 : (n : Int) ≤ (cap : Int) := by omega
    have h0 : (0 : Int) ≤ n := by omega
    clear hk h
    go_enter Tryd.func17, Tryd.ntmps17
    go_wp2
    go_ret
    exact ⟨rfl, rfl⟩
  · obtain rfl : 20 = k := by omega
    have c1 : (20 : Int) < (n : Int) := by omega
    have c2 : ¬ (n : Int) ≤ 20 := by omega
    have c3 : ¬ (n : Int) < 20 := by omega
    have h1 : (20 : Int) ≤ (cap : Int) := by omega
    clear hk h
    go_enter Tryd.func17, Tryd.ntmps17
    go_wp2
    go_ret
    exact ⟨rfl, rfl⟩

theorem smL_take (l : List Int) (k : Nat) (h : k < l.length) : (l.take k).map smv ++ [smv (l.getD k 0)] = (l.take (k + 1)).map smv := by
  rw [List.take_add_one, List.getElem?_eq_getElem h, Option.toList_some, List.map_append]
  simp [List.getD_eq_getElem?_getD, List.getElem?_eq_getElem h]
theorem smL_end (l : List Int) (k : Nat) (h : k ≤ l.length) (h6 : k ≤ 6) (he : k = l.length ∨ k = 6) : (l.take k).map smv = smL l := by
  unfold smL
  rcases he with rfl | rfl
  · rw [List.take_length, List.take_of_length_le h6]
  · rfl

set_option maxRecDepth 100000 in
set_option maxHeartbeats 1000000 in
theorem small9_any (l : List Int) (s : Option Addr) (cap : Nat) (w : World) (hr : RdA w s (vi l)) : Calls Tryd.prog 9 #[.slice s l.length cap] w (Row w (smL l)) := by
  obtain ⟨i0, ki, hz0, hz1, hz2⟩ := info_parts Tryd.info3
  have HR : Hid (RdA w s (vi l)) := hr
  have ST : Hid (∀ k, k < l.length → (l.take k).map smv ++ [smv (l.getD k 0)] = (l.take (k + 1)).map smv) := smL_take l
  have EN : Hid (∀ k, k ≤ l.length → k ≤ 6 → k = l.length ∨ k = 6 → (l.take k).map smv = smL l) := smL_end l
  obtain ⟨SK, hSK⟩ : ∃ SK : Nat → List Int, ∀ k, (l.take k).map smv = SK k := ⟨fun k => (l.take k).map smv, fun _ => rfl⟩
  have LE : Hid (∀ k, k ≤ 6 → (SK k).length ≤ 6) := show _ from fun k hk => by rw [← hSK, List.length_map, List.length_take]; omega
  have S0 : SK 0 = [] := by rw [← hSK]; rfl
  simp only [hSK] at ST EN
  clear hSK hr
  generalize smL l = R at *
  obtain ⟨n, hn⟩ : ∃ n, l.length = n := ⟨_, rfl⟩
  have HN : Hid (l.length = n) := hn
  rw [hn] at ST EN ⊢
  clear hn
  go_enter Tryd.func9, Tryd.ntmps9
  go_wp2_with fail
  go_loopw [3, 4] (fun v i wr => ∃ k : Nat, k ≤ n ∧ k ≤ 6 ∧ i = .int .i64 k ∧ Own 3 wr w.heap.size v (vi (SK k)) ∧ Below w.heap.size w wr) (fun _ i _ => 6 - (RowKit.intOf i).toNat)
  case atStart => exact ⟨0, Nat.zero_le _, by omega, rfl, by rw [S0]; exact Own.nil _ _ _, Below.refl _ _⟩
  case round =>
    obtain ⟨k, hk, hk6, rfl, own, hb⟩ := hrel
    have HB : Hid (Below w.heap.size w wr) := hb
    have hsa : w.heap.size ≤ wr.heap.size := hb.size
    by_cases hlt : k < n
    · have h1 : (k : Int) < (n : Int) := by omega
      by_cases h6 : k < 6
      · have h2 : (k : Int) < 6 := by omega
        have h3 : (0 : Int) ≤ k := by omega
        obtain ⟨g, o, rfl, hg, c0⟩ := HR.out.num (i := k) (by rw [HN.out]; exact hlt)
        have c1 : wr.cell? ⟨g, o + k, none⟩ = some (.int .i64 (l.getD k 0)) := (hb.cell (p := ⟨g, o + k, none⟩) hg).trans c0
        have st := ST.out k hlt
        obtain ⟨q, e1, q0, q1, e2⟩ := smv_in (l.getD k 0)
        rw [e2] at st
        have hll : Hid ((vi (SK k)).length ≤ 1000000) := by unfold Hid; rw [vi_len]; have := LE.out k hk6; omega
        have hvs : Hid (vi (SK k) ++ [.int .i64 (q - 3)] = vi (SK (k + 1))) := by unfold Hid; rw [← st, vi_snoc]
        clear c0 hg st e2 hb
        generalize l.getD k 0 = x at *
        go_wp2_with (at_builtin; refine wpList_app_one rfl (.tmp 15) (.tmp 24) 22 3 i0 (.int .i64 0) 8 rfl Tryd.underlying22 ki hz0 hz1 hz2 rfl (by decide) w.heap.size wr _ _ (.int .i64 (q - 3)) rfl own rfl rfl hll.out hsa ?_; intro v1' wb o1 kb; have ab : Hid (Below w.heap.size w wb) := kb.2.1 _ HB.out; clear kb own)
        rw [hvs.out] at o1
        go_roundw
        case rel => exact ⟨k + 1, by omega, by omega, by go_num, o1, ab.out⟩
        case measure => simp [RowKit.intOf]; omega
      · have h2 : ¬ (k : Int) < 6 := by omega
        have en := EN.out k hk hk6 (by omega)
        rw [en] at own
        have HO : Hid (Own 3 wr w.heap.size _ (vi R)) := own
        clear own hb
        go_wp2
        go_ret
        exact Row.mk HO.out HB.out
    · have h1 : ¬ (k : Int) < (n : Int) := by omega
      have en := EN.out k hk hk6 (by omega)
      rw [en] at own
      have HO : Hid (Own 3 wr w.heap.size _ (vi R)) := own
      clear own hb
      go_wp2
      go_ret
      exact Row.mk HO.out HB.out

/-- Rows that are answered, as slices. -/
theorem Row.rd {w w' : World} {l : List Int} {e : Ending} (h : Row w l e w') : ∃ a cap, e = .returned (.slice a l.length cap) ∧ l.length ≤ cap ∧ Rd w' a (vi l) ∧ Own 3 w' w.heap.size (.slice a l.length cap) (vi l) ∧ Below w.heap.size w w' := by
  obtain ⟨v, rfl, own, hb⟩ := h
  obtain ⟨a, cap, rfl, h1, _, h2⟩ := own.rd
  rw [vi_len] at h1 own ⊢
  exact ⟨a, cap, rfl, h1, h2, own, hb⟩
theorem RowB.rd {w w' : World} {l : List Int} {e : Ending} (h : RowB w l e w') : ∃ a cap, e = .returned (.tuple #[.slice a l.length cap, .bool true]) ∧ l.length ≤ cap ∧ Rd w' a (vi l) ∧ Below w.heap.size w w' := by
  obtain ⟨v, rfl, own, hb⟩ := h
  obtain ⟨a, cap, rfl, h1, _, h2⟩ := own.rd
  rw [vi_len] at h1 ⊢
  exact ⟨a, cap, rfl, h1, h2, hb⟩
theorem RowC.rd {w w' : World} {l : List (Int × Int)} {e : Ending} (h : RowC w l e w') : ∃ a cap, e = .returned (.tuple #[.slice a l.length cap, .bool true]) ∧ l.length ≤ cap ∧ Rd w' a (pc l) ∧ Below w.heap.size w w' := by
  obtain ⟨v, rfl, own, hb⟩ := h
  obtain ⟨a, cap, rfl, h1, _, h2⟩ := own.rd
  exact ⟨a, cap, rfl, h1, h2, hb⟩
theorem Wk.tabs {w v : World} {c : Cf} {A : Array Value} {t : TypeId} (h : Wk w c A t v) (hS : Tabs w) : Tabs v := hS.next h.2.2
theorem W1.tabs {w v : World} {c : Cf} (h : W1 w c v) (hS : Tabs w) : Tabs v := hS.next h.2
theorem below_new (v : World) (o : Obj) : Below v.heap.size v (v.alloc o) := (Below.refl _ _).alloc (Nat.le_refl _) _

/-- The document's example. -/
def ex9 : Cf := ⟨4, 4, 1, 1, 1, 1, 1, true, false⟩
theorem ex9_way : way ex9 0 5 [1, 0] = [0, 4, 5] := by decide +kernel
theorem ex9_st : ∀ k, k < 2 → bsN ex9 ([0, 4, 5].getD k 0) ([3, 1].getD k 0) = [0, 4, 5].getD (k + 1) 0 ∧ bsB ex9 ([0, 4, 5].getD k 0) ([3, 1].getD k 0) = true := by decide +kernel
theorem ex9_few : Few [2] := ⟨by decide, fun k => by
  cases k with
  | zero => simp
  | succ k => simp⟩
theorem ex9_work : wrk [2] 6 = 22 := by decide +kernel
theorem ex9_words : wds 1 6 = 2 := by decide +kernel

theorem some_any (w : World) : Calls Tryd.prog 25 #[] w fun e w' => e = .returned (cfv ex9) ∧ Below w.heap.size w w' := by
  go_enter Tryd.func25, Tryd.ntmps25
  go_wp2
  exact bodyPost_ret (v := cfv ex9) (by simp [results, Tryd.results25, go_sem, ex9]) rfl ⟨rfl, (Below.refl _ _).alloc (Nat.le_refl _) _⟩

set_option maxRecDepth 100000 in
set_option maxHeartbeats 1000000 in
theorem lives_any (w : World) (hS : Steps w) (hT : Tabs w) : Calls Tryd.prog 8 #[] w fun e w' => e = .returned (.bool true) ∧ Below w.heap.size w w' := by
  have K0 := fun v => some_any v
  have K1 : ∀ (v : World) (g : Nat), Steps v → Tabs v → RdA v (some ⟨g, 0, none⟩) (vi [1, 0]) → Calls Tryd.prog 16 #[cfv ex9, .int .i64 0, .int .i64 5, .slice (some ⟨g, 0, none⟩) 2 2] v (Row v [0, 4, 5]) := fun v g h1 h2 h3 => by
    have := way_any ex9 0 5 (some ⟨g, 0, none⟩) [1, 0] 2 v h1 h2 h3 (by intro n hn; simp at hn; rcases hn with rfl | rfl <;> (unfold inI; omega))
    rw [ex9_way] at this
    exact this
  have K2 : ∀ (v : World) (a : Option Addr) (cap : Nat), Steps v → RdA v a (vi [0, 4, 5]) → Calls Tryd.prog 22 #[cfv ex9, .slice a 3 cap] v (RowB v [3, 1]) := fun v a cap h1 h2 =>
    wports_any ex9 (fun k => [0, 4, 5].getD k 0) (fun k => [3, 1].getD k 0) 2 a cap v h1 (by decide) h2 ex9_st
  have K3 : ∀ (v : World) (g : Nat), RdA v (some ⟨g, 0, none⟩) (vi [2]) → Calls Tryd.prog 12 #[.slice (some ⟨g, 0, none⟩) 1 1, .int .i64 6] v (fun e w' => e = .returned (.int .i64 22) ∧ Below v.heap.size v w') := fun v g h =>
    (work_any [2] 6 (some ⟨g, 0, none⟩) 1 v ex9_few h).mono fun e w' ⟨h1, h2⟩ => ⟨by rw [h1, ex9_work], h2.below⟩
  have K4 := fun v => words_any 1 6 v (by decide)
  rw [ex9_words] at K4
  have HS : Hid (Steps w) := hS
  have HT : Hid (Tabs w) := hT
  clear hS hT
  unfold ex9 at *
  simp only [cfv, cfc] at *
  go_enter Tryd.func8, Tryd.ntmps8
  have B0 : Hid (Below w.heap.size w w) := Below.refl _ _
  go_wp2_with fail
  go_at_call 25
  refine (K0 _).mono ?_
  rintro e u1 ⟨rfl, hb⟩
  have C1 : Hid (Below w.heap.size w u1) := nxt B0.out hb
  clear hb B0
  go_wp2_with fail
  have R1 : RdA (u1.alloc (.cells #[.int .i64 1, .int .i64 0] 3)) (some ⟨u1.heap.size, 0, none⟩) (vi [1, 0]) := fun j x hj => ⟨u1.heap.size, 0, rfl, by simp, by rw [Nat.zero_add, cell_of (heap_alloc_new u1 _)]; simpa [vi] using hj⟩
  have D1 : Hid (Below w.heap.size w (u1.alloc (.cells #[.int .i64 1, .int .i64 0] 3))) := nxt C1.out (below_new _ _)
  go_at_call 16
  refine (K1 _ _ (HS.out.next D1.out) (HT.out.next D1.out) R1).mono ?_
  rintro e v1 h1
  obtain ⟨a, cap, rfl, _, r1, _, hb⟩ := h1.rd
  have B1 : Hid (Below w.heap.size w v1) := nxt D1.out hb
  clear hb K1 C1 D1 R1 h1
  go_wp2_with fail
  go_at_call 25
  refine (K0 _).mono ?_
  rintro e u2 ⟨rfl, hb⟩
  have C2 : Hid (Below w.heap.size w u2) := nxt B1.out hb
  have r2 := r1.below hb
  clear hb B1 r1 K0
  go_wp2_with fail
  go_at_call 22
  refine (K2 _ _ _ (HS.out.next C2.out) (RdA.of r2)).mono ?_
  rintro e v2 h2
  obtain ⟨b, cap', rfl, _, p2, hb⟩ := h2.rd
  have B2 : Hid (Below w.heap.size w v2) := nxt C2.out hb
  have r3 := r2.below hb
  clear hb C2 r2 K2 h2
  go_wp2_with fail
  have R3 : RdA (v2.alloc (.cells #[.int .i64 2] 3)) (some ⟨v2.heap.size, 0, none⟩) (vi [2]) := fun j x hj => ⟨v2.heap.size, 0, rfl, by simp, by rw [Nat.zero_add, cell_of (heap_alloc_new v2 _)]; simpa [vi] using hj⟩
  have D3 : Hid (Below w.heap.size w (v2.alloc (.cells #[.int .i64 2] 3))) := nxt B2.out (below_new _ _)
  have r4 := r3.below (below_new v2 (.cells #[.int .i64 2] 3))
  have p4 := p2.below (below_new v2 (.cells #[.int .i64 2] 3))
  go_at_call 12
  refine (K3 _ _ R3).mono ?_
  rintro e v3 ⟨rfl, hb⟩
  have B3 : Hid (Below w.heap.size w v3) := nxt D3.out hb
  have r5 := r4.below hb
  have p5 := p4.below hb
  clear hb K3 D3 R3 r3 r4 p2 p4 B2
  obtain ⟨g, rfl, _, c1⟩ := r5 1 _ rfl
  obtain ⟨g', rfl, _, c2⟩ := p5 0 _ rfl
  obtain ⟨g'', e', _, c3⟩ := p5 1 _ rfl
  simp only [Option.some.injEq, Addr.mk.injEq] at e'
  obtain ⟨rfl, _⟩ := e'
  clear r5 p5
  go_wp2_with fail
  go_at_call 10
  refine (K4 _).mono ?_
  rintro e v4 ⟨rfl, rfl⟩
  clear K4
  go_wp2
  go_ret
  exact ⟨rfl, B3.out⟩
end Go.Proofs.YtaohimmmhpmgdaaDoor
