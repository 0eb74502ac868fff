/-
  The program's lane: the first word is taken.
-/
import Derived.Test.YtkigeakaedkjpaaKFind
namespace Go.Proofs.Ytkigeakaedkjpaa
open Go.RowKit

theorem readR_err {x : Nat} (h : ¬ (readR x).2 = 0) : (readR x).1.m = false := by
  unfold readR at h ⊢
  split
  · split
    · rename_i h1 h2
      rw [if_pos h1, if_pos h2] at h
      exact absurd rfl h
    · rfl
  · rfl
set_option maxRecDepth 100000 in
set_option maxHeartbeats 2000000 in
theorem follows_any (x : Nat) (hx : x < 18446744073709551616) (w : World) : Calls Try.prog 52 #[.int .u64 (x : Int)] w fun e w' => e = .returned (.bool (readR x).1.m) ∧ Below w.heap.size w w' := by
  have FR := fread_any x hx w
  have HE := readR_err (x := x)
  obtain ⟨f, hf⟩ : ∃ f, (readR x).1 = f := ⟨_, rfl⟩
  obtain ⟨er, her⟩ : ∃ e, (readR x).2 = e := ⟨_, rfl⟩
  rw [hf, her] at HE FR
  rw [hf]
  clear hf her
  obtain ⟨fk, fs, fd, fq, fl, fm, fc, fx⟩ := f
  simp only [flv, flc] at *
  have HT : Hid (((er == 0) = false ∧ fm = false) ∨ (er == 0) = true) := show _ ∨ _ from by
    by_cases a : er = 0
    · exact Or.inr (by simpa using a)
    · exact Or.inl ⟨by simpa using a, HE a⟩
  clear HE
  generalize (x : Int) = X at *
  rcases HT.out with ⟨t1, rfl⟩ | t1
  all_goals
    clear HT
    go_enter Try.func52, Try.ntmps52
    go_upto_region 2 with (go_at_call 48; with_reducible refine FR.mono ?_; rintro e w2 ⟨rfl, hb2⟩)
  · have KB : Hid (Below w.heap.size w (w2.alloc (.cells #[.int .i64 fk, .int .i64 fs, .int .i64 fd, .int .i64 fq, .int .i64 fl, .bool false, .bool fc, .string fx] 49))) := hb2.alloc hb2.size _
    have K4 := (Bk.new w2 #[.int .i64 fk, .int .i64 fs, .int .i64 fd, .int .i64 fq, .int .i64 fl, .bool false, .bool fc, .string fx] 49).cell 5
    simp only [List.getElem?_toArray, List.getElem?_cons_zero, List.getElem?_cons_succ] at K4
    generalize w2.alloc (.cells #[.int .i64 fk, .int .i64 fs, .int .i64 fd, .int .i64 fq, .int .i64 fl, .bool false, .bool fc, .string fx] 49) = v at *
    clear FR hb2
    go_wp2
    go_ret
    exact ⟨rfl, KB.out⟩
  · have KB : Hid (Below w.heap.size w (w2.alloc (.cells #[.int .i64 fk, .int .i64 fs, .int .i64 fd, .int .i64 fq, .int .i64 fl, .bool fm, .bool fc, .string fx] 49))) := hb2.alloc hb2.size _
    have K4 := (Bk.new w2 #[.int .i64 fk, .int .i64 fs, .int .i64 fd, .int .i64 fq, .int .i64 fl, .bool fm, .bool fc, .string fx] 49).cell 5
    simp only [List.getElem?_toArray, List.getElem?_cons_zero, List.getElem?_cons_succ] at K4
    generalize w2.alloc (.cells #[.int .i64 fk, .int .i64 fs, .int .i64 fd, .int .i64 fq, .int .i64 fl, .bool fm, .bool fc, .string fx] 49) = v at *
    clear FR hb2
    go_wp2
    go_ret
    exact ⟨rfl, KB.out⟩
theorem Bk.five {v : World} {k : Nat} {c0 c1 c2 c3 c4 : Value} {t : TypeId} (h : Bk v k #[c0, c1, c2, c3, c4] t) :
    v.cell? ⟨k, 0, none⟩ = some c0 ∧ v.cell? ⟨k, 1, none⟩ = some c1 ∧ v.cell? ⟨k, 2, none⟩ = some c2 ∧ v.cell? ⟨k, 3, none⟩ = some c3 ∧ v.cell? ⟨k, 4, none⟩ = some c4 := by
  refine ⟨?_, ?_, ?_, ?_, ?_⟩ <;> (rw [h.cell]; rfl)
theorem Bk.free5 {v : World} {k : Nat} {cs : Array Value} {t : TypeId} (h : Bk v k cs t) :
    v.frozen? ⟨k, 0, none⟩ = false ∧ v.frozen? ⟨k, 1, none⟩ = false ∧ v.frozen? ⟨k, 2, none⟩ = false ∧ v.frozen? ⟨k, 3, none⟩ = false ∧ v.frozen? ⟨k, 4, none⟩ = false :=
  ⟨h.free 0, h.free 1, h.free 2, h.free 3, h.free 4⟩
theorem Bk.set5 {v : World} {k : Nat} {c0 c1 c2 c3 c4 x0 x1 x2 x3 x4 : Value} {t : TypeId} (h : Bk v k #[c0, c1, c2, c3, c4] t) :
    Bk (((((v.setCell ⟨k, 0, none⟩ x0).setCell ⟨k, 1, none⟩ x1).setCell ⟨k, 2, none⟩ x2).setCell ⟨k, 3, none⟩ x3).setCell ⟨k, 4, none⟩ x4) k #[x0, x1, x2, x3, x4] t := by
  have := ((((h.set 0 x0).set 1 x1).set 2 x2).set 3 x3).set 4 x4
  simpa using this
theorem below_five {B : Nat} {w v : World} {k : Nat} {x0 x1 x2 x3 x4 : Value} (h : Below B w v) (hk : B ≤ k) :
    Below B w (((((v.setCell ⟨k, 0, none⟩ x0).setCell ⟨k, 1, none⟩ x1).setCell ⟨k, 2, none⟩ x2).setCell ⟨k, 3, none⟩ x3).setCell ⟨k, 4, none⟩ x4) :=
  ((((h.setCell hk _).setCell hk _).setCell hk _).setCell hk _).setCell hk _
theorem out_world (w : World) (cs : Array Value) : Below w.heap.size w ((w.alloc (.cells cs 69)).alloc (.cells #[.int .i64 0, .int .i64 0, .int .u64 0, .bool false, .bool false] 43)) ∧ Bk ((w.alloc (.cells cs 69)).alloc (.cells #[.int .i64 0, .int .i64 0, .int .u64 0, .bool false, .bool false] 43)) w.heap.size cs 69 ∧ Bk ((w.alloc (.cells cs 69)).alloc (.cells #[.int .i64 0, .int .i64 0, .int .u64 0, .bool false, .bool false] 43)) (w.heap.size + 1) #[.int .i64 0, .int .i64 0, .int .u64 0, .bool false, .bool false] 43 := by
  refine ⟨((Below.refl _ _).alloc (Nat.le_refl _) _).alloc (by simp) _, (Bk.new w _ _).alloc _, ?_⟩
  have := Bk.new (w.alloc (.cells cs 69)) #[.int .i64 0, .int .i64 0, .int .u64 0, .bool false, .bool false] 43
  simpa using this
set_option maxRecDepth 100000 in
set_option maxHeartbeats 2000000 in
theorem out_any (S : KS) (r x : Nat) (hx : x < 18446744073709551616) (w : World) : Calls Try.prog 36 #[.agg (stc S r), .int .u64 (x : Int)] w fun e w' => e = .returned (kov (outK S x)) ∧ Below w.heap.size w w' := by
  obtain ⟨W1, W2, W3⟩ := out_world w (stc S r)
  have KC := fun v => kind_any x hx v
  have HB0 : Hid (Below w.heap.size w ((w.alloc (.cells (stc S r) 69)).alloc (.cells #[.int .i64 0, .int .i64 0, .int .u64 0, .bool false, .bool false] 43))) := W1
  have N2 : Hid (Bk ((w.alloc (.cells (stc S r) 69)).alloc (.cells #[.int .i64 0, .int .i64 0, .int .u64 0, .bool false, .bool false] 43)) w.heap.size (stc S r) 69) := W2
  have N3 : Hid (Bk ((w.alloc (.cells (stc S r) 69)).alloc (.cells #[.int .i64 0, .int .i64 0, .int .u64 0, .bool false, .bool false] 43)) (w.heap.size + 1) #[.int .i64 0, .int .i64 0, .int .u64 0, .bool false, .bool false] 43) := W3
  clear W1 W2 W3
  simp only [stc, kov, koc, outK] at *
  generalize S.port = so at *
  generalize S.lane = sl at *
  generalize S.cp = sc at *
  generalize S.ph = sp at *
  obtain ⟨k, hk⟩ : ∃ k, x % 4 = k := ⟨_, rfl⟩
  rw [hk] at KC ⊢
  generalize (x : Int) = X at *
  clear hk hx
  obtain ⟨G, hG⟩ : ∃ G, (decide (so ≠ 0) && (sc && decide (k ≠ 1))) = G := ⟨_, rfl⟩
  obtain ⟨E, hE⟩ : ∃ E, decide (k = 3) = E := ⟨_, rfl⟩
  have HT : Hid (((so != 0) = false ∧ G = false) ∨ ((so != 0) = true ∧ sc = false ∧ G = false) ∨ ((so != 0) = true ∧ sc = true ∧ ((k : Int) != 1) = G)) := show _ ∨ _ from by
    rw [← hG]
    by_cases a : so = 0
    · exact Or.inl ⟨by simpa using a, by simp [a]⟩
    · cases sc
      · exact Or.inr (Or.inl ⟨by simpa using a, rfl, by simp⟩)
      · refine Or.inr (Or.inr ⟨by simpa using a, rfl, ?_⟩)
        by_cases c : k = 1
        · subst c; simp
        · have c' : ¬ (k : Int) = 1 := by omega
          simp [a, c, c']
  have HE : Hid (((k : Int) == 3) = E) := show ((k : Int) == 3) = E from by
    rw [← hE]
    by_cases c : k = 3
    · subst c; rfl
    · have c' : ¬ (k : Int) = 3 := by omega
      simp [c, c']
  rw [hG, hE]
  clear hG hE
  go_enter Try.func36, Try.ntmps36
  go_upto_region 1 with fail
  generalize (w.alloc (.cells #[.pointer (some ⟨r, 0, none⟩), .int .i64 sp, .int .i64 so, .int .i64 sl, .bool sc] 69)).alloc (.cells #[.int .i64 0, .int .i64 0, .int .u64 0, .bool false, .bool false] 43) = v at *
  obtain ⟨nb, hnb⟩ : ∃ x, w.heap.size = x := ⟨_, rfl⟩
  obtain ⟨rb, hrb⟩ : ∃ x, w.heap.size + 1 = x := ⟨_, rfl⟩
  have HB : Hid (w.heap.size = nb ∧ nb + 1 = rb) := ⟨hnb, by rw [← hrb, hnb]⟩
  rw [hrb] at N3 ⊢
  rw [hnb] at HB0 N2 ⊢
  clear hnb hrb
  have KV := KC v
  clear KC
  go_upto_region 2 with (go_at_call 51; with_reducible refine KV.mono ?_; rintro e w1 ⟨rfl, m, rfl⟩)
  have M2 : Bk (v.drewN m) nb #[.pointer (some ⟨r, 0, none⟩), .int .i64 sp, .int .i64 so, .int .i64 sl, .bool sc] 69 := N2.out.drewN m
  have M3 : Bk (v.drewN m) rb #[.int .i64 0, .int .i64 0, .int .u64 0, .bool false, .bool false] 43 := N3.out.drewN m
  have MB : Hid (Below nb w (v.drewN m)) := dn HB0.out m
  clear KV N2 N3 HB0
  generalize v.drewN m = u at *
  obtain ⟨c0, c1, c2, c3, c4⟩ := M2.five
  obtain ⟨d0, d1, d2, d3, d4⟩ := M3.five
  obtain ⟨z0, z1, z2, z3, z4⟩ := M3.free5
  obtain ⟨y0, y1, y2, y3, y4⟩ := (M3.set5 (x0 := .int .i64 so) (x1 := .int .i64 sl) (x2 := .int .u64 X) (x3 := .bool G) (x4 := .bool E)).five
  have hE := HE.out
  clear M2 M3 HE
  rcases HT.out with ⟨t1, rfl⟩ | ⟨t1, rfl, rfl⟩ | ⟨t1, rfl, t2⟩
  · clear HT
    go_wp2
    refine bodyPost_ret (v := .agg #[.int .i64 so, .int .i64 sl, .int .u64 X, .bool false, .bool E]) ?_ rfl ?_
    · simp [results, Try.results36, go_sem, y0, y1, y2, y3, y4]
    · exact ⟨rfl, by rw [HB.out.1]; exact below_five MB.out (by have := HB.out.2; omega)⟩
  · clear HT
    go_wp2
    refine bodyPost_ret (v := .agg #[.int .i64 so, .int .i64 sl, .int .u64 X, .bool false, .bool E]) ?_ rfl ?_
    · simp [results, Try.results36, go_sem, y0, y1, y2, y3, y4]
    · exact ⟨rfl, by rw [HB.out.1]; exact below_five MB.out (by have := HB.out.2; omega)⟩
  · clear HT
    go_wp2
    refine bodyPost_ret (v := .agg #[.int .i64 so, .int .i64 sl, .int .u64 X, .bool G, .bool E]) ?_ rfl ?_
    · simp [results, Try.results36, go_sem, y0, y1, y2, y3, y4]
    · exact ⟨rfl, by rw [HB.out.1]; exact below_five MB.out (by have := HB.out.2; omega)⟩
theorem next_cells (S : KS) (r x : Nat) (t : List Nat) :
    (x % 4 = 3 ∧ stc (nextK S x t) r = #[.pointer (some ⟨r, 0, none⟩), .int .i64 0, .int .i64 0, .int .i64 0, .bool false]) ∨
    (x % 4 = 1 ∧ ((S.port = 0 ∧ (readR x).1.m = true ∧ stc (nextK S x t) r = #[.pointer (some ⟨r, 0, none⟩), .int .i64 0, .int .i64 0, .int .i64 0, .bool true]) ∨ (S.port = 0 ∧ (readR x).1.m = false ∧ stc (nextK S x t) r = stc S r) ∨ (¬ S.port = 0 ∧ stc (nextK S x t) r = stc S r))) ∨
    (¬ x % 4 = 3 ∧ ¬ x % 4 = 1 ∧ stc (nextK S x t) r = stc S r) := by
  unfold nextK
  by_cases h3 : x % 4 = 3
  · rw [if_pos h3]
    exact Or.inl ⟨h3, rfl⟩
  · rw [if_neg h3]
    by_cases h1 : x % 4 = 1
    · refine Or.inr (Or.inl ⟨h1, ?_⟩)
      by_cases hp : S.port = 0
      · by_cases hm : (readR x).1.m = true
        · rw [if_pos ⟨h1, hp, hm⟩]
          exact Or.inl ⟨hp, hm, rfl⟩
        · rw [if_neg fun c => hm c.2.2]
          exact Or.inr (Or.inl ⟨hp, by simpa using hm, rfl⟩)
      · rw [if_neg fun c => hp c.2.1]
        exact Or.inr (Or.inr ⟨hp, rfl⟩)
    · rw [if_neg fun c => h1 c.1]
      exact Or.inr (Or.inr ⟨h3, h1, rfl⟩)
/-- The four numbers of a lane are stored. -/
theorem Bk.four5 {v : World} {k : Nat} {c0 c1 c2 c3 c4 x1 x2 x3 x4 : Value} {t : TypeId} (h : Bk v k #[c0, c1, c2, c3, c4] t) :
    Bk ((((v.setCell ⟨k, 1, none⟩ x1).setCell ⟨k, 2, none⟩ x2).setCell ⟨k, 3, none⟩ x3).setCell ⟨k, 4, none⟩ x4) k #[c0, x1, x2, x3, x4] t := by
  have := (((h.set 1 x1).set 2 x2).set 3 x3).set 4 x4
  simpa using this
theorem On.four {b : Nat} {w v : World} (h : On b w v) (x1 x2 x3 x4 : Value) : On b w ((((v.setCell ⟨b, 1, none⟩ x1).setCell ⟨b, 2, none⟩ x2).setCell ⟨b, 3, none⟩ x3).setCell ⟨b, 4, none⟩ x4) :=
  (((h.set 1 x1).set 2 x2).set 3 x3).set 4 x4
set_option maxRecDepth 100000 in
set_option maxHeartbeats 2000000 in
theorem taken_any {w : World} {b : Nat} {S : KS} {r : Nat} (h : Bk w b (stc S r) 71) (x : Nat) (hx : x < 18446744073709551616) (t : List Nat) : Calls Try.prog 37 #[.pointer (some ⟨b, 0, none⟩), .int .u64 (x : Int)] w fun e w' => e = .returned (.tuple #[]) ∧ Bk w' b (stc (nextK S x t) r) 71 ∧ On b w w' := by
  have KC := kind_any x hx w
  have FC := fun v => follows_any x hx v
  have HB : Hid (Bk w b (stc S r) 71) := h
  have HN := next_cells S r x t
  generalize stc (nextK S x t) r = cs at *
  obtain ⟨M, hM⟩ : ∃ M, (readR x).1.m = M := ⟨_, rfl⟩
  rw [hM] at HN
  simp only [hM] at FC
  clear hM h hx
  rcases HN with ⟨h3, rfl⟩ | ⟨h1, ⟨hp, rfl, rfl⟩ | ⟨hp, rfl, rfl⟩ | ⟨hp, rfl⟩⟩ | ⟨h3, h1, rfl⟩
  · rw [show ((x % 4 : Nat) : Int) = 3 by omega] at KC
    generalize (x : Int) = X at *
    clear h3 FC
    go_enter Try.func37, Try.ntmps37
    go_upto_region 1 with (go_at_call 51; with_reducible refine KC.mono ?_; rintro e w1 ⟨rfl, m, rfl⟩)
    have N : Hid (Bk (w.drewN m) b (stc S r) 71) := HB.out.drewN m
    have O : Hid (On b w (w.drewN m)) := (On.refl b w).drewN m
    clear HB KC
    generalize w.drewN m = v at *
    obtain ⟨c0, c1, c2, c3, c4⟩ := N.out.five
    obtain ⟨z0, z1, z2, z3, z4⟩ := N.out.free5
    go_wp2
    exact bodyPost_end (results_none rfl _ _ _) rfl ⟨rfl, N.out.four5, O.out.four _ _ _ _⟩
  · rw [show ((x % 4 : Nat) : Int) = 1 by omega] at KC
    generalize (x : Int) = X at *
    clear h1
    go_enter Try.func37, Try.ntmps37
    go_upto_region 1 with (go_at_call 51; with_reducible refine KC.mono ?_; rintro e w1 ⟨rfl, m, rfl⟩)
    have N : Hid (Bk (w.drewN m) b (stc S r) 71) := HB.out.drewN m
    have O : Hid (On b w (w.drewN m)) := (On.refl b w).drewN m
    clear HB KC
    generalize w.drewN m = v at *
    obtain ⟨c0, c1, c2, c3, c4⟩ := N.out.five
    rw [hp] at c2
    have FV := FC v
    clear FC hp c0 c1 c3 c4
    go_upto_region 5 with (go_at_call 52; with_reducible refine FV.mono ?_; rintro e w2 ⟨rfl, hb2⟩)
    have N2 : Hid (Bk w2 b (stc S r) 71) := N.out.next hb2
    have O2 : Hid (On b w w2) := O.out.below hb2
    clear N O FV c2 hb2
    obtain ⟨c0, c1, c2, c3, c4⟩ := N2.out.five
    obtain ⟨z0, z1, z2, z3, z4⟩ := N2.out.free5
    go_wp2
    exact bodyPost_end (results_none rfl _ _ _) rfl ⟨rfl, N2.out.four5, O2.out.four _ _ _ _⟩
  · rw [show ((x % 4 : Nat) : Int) = 1 by omega] at KC
    generalize (x : Int) = X at *
    clear h1
    go_enter Try.func37, Try.ntmps37
    go_upto_region 1 with (go_at_call 51; with_reducible refine KC.mono ?_; rintro e w1 ⟨rfl, m, rfl⟩)
    have N : Hid (Bk (w.drewN m) b (stc S r) 71) := HB.out.drewN m
    have O : Hid (On b w (w.drewN m)) := (On.refl b w).drewN m
    clear HB KC
    generalize w.drewN m = v at *
    obtain ⟨c0, c1, c2, c3, c4⟩ := N.out.five
    rw [hp] at c2
    have FV := FC v
    clear FC hp c0 c1 c3 c4
    go_wp2_with (go_at_call 52; with_reducible refine FV.mono ?_; rintro e w2 ⟨rfl, hb2⟩)
    exact bodyPost_end (results_none rfl _ _ _) rfl ⟨rfl, N.out.next hb2, O.out.below hb2⟩
  · rw [show ((x % 4 : Nat) : Int) = 1 by omega] at KC
    generalize (x : Int) = X at *
    clear h1 FC
    have p1 : (S.port == 0) = false := by simpa using hp
    go_enter Try.func37, Try.ntmps37
    go_upto_region 1 with (go_at_call 51; with_reducible refine KC.mono ?_; rintro e w1 ⟨rfl, m, rfl⟩)
    have N : Hid (Bk (w.drewN m) b (stc S r) 71) := HB.out.drewN m
    have O : Hid (On b w (w.drewN m)) := (On.refl b w).drewN m
    clear HB KC
    generalize w.drewN m = v at *
    obtain ⟨c0, c1, c2, c3, c4⟩ := N.out.five
    generalize S.port = so at *
    clear c0 c1 c3 c4
    go_wp2
    exact bodyPost_end (results_none rfl _ _ _) rfl ⟨rfl, N.out, O.out⟩
  · obtain ⟨k, hk⟩ : ∃ k : Int, ((x % 4 : Nat) : Int) = k := ⟨_, rfl⟩
    have t3 : (k == 3) = false := by
      have : ¬ k = 3 := by omega
      simpa using this
    have t1 : (k == 1) = false := by
      have : ¬ k = 1 := by omega
      simpa using this
    rw [hk] at KC
    generalize (x : Int) = X at *
    clear h1 h3 FC hk
    go_enter Try.func37, Try.ntmps37
    go_upto_region 1 with (go_at_call 51; with_reducible refine KC.mono ?_; rintro e w1 ⟨rfl, m, rfl⟩)
    have N : Hid (Bk (w.drewN m) b (stc S r) 71) := HB.out.drewN m
    have O : Hid (On b w (w.drewN m)) := (On.refl b w).drewN m
    clear HB KC
    generalize w.drewN m = v at *
    go_wp2
    exact bodyPost_end (results_none rfl _ _ _) rfl ⟨rfl, N.out, O.out⟩
end Go.Proofs.Ytkigeakaedkjpaa
