/-
  The walk of WalkMore.
-/
import Derived.Test.YtaohimmmhpmgdaaDoorWorkW
import Derived.Test.YtaohimmmhpmgdaaDoorAppR
namespace Go.Proofs.YtaohimmmhpmgdaaDoor
open Go.RowKit

/-- What a Head more, a step more and a byte more make of the work. -/
theorem more_inv (l : List Int) (b : Int) (h0 : 0 ≤ b) (h1 : b < 64) (hl : (l).length ≤ 6 ∧ ∀ k, -3 ≤ l.getD k 0 ∧ l.getD k 0 ≤ 30) (hn : ¬ wrk l b < 0) :
    1 ≤ l.length ∧ -3 ≤ lstH l ∧ lstH l ≤ 30 ∧ Few (l ++ [lstH l]) ∧ Few (l.take (l.length - 1) ++ [lstH l + 1]) ∧ wrk l b < wrk (l ++ [lstH l]) b ∧ wrk l b < wrk (l.take (l.length - 1) ++ [lstH l + 1]) b ∧ wrk l b ≤ wrk l (b + 1) ∧ wds l.length b = l.length + tl b := by
  have ok : okH l b = true := by
    cases e : okH l b with
    | true => rfl
    | false => rw [wrk_no e] at hn; omega
  have hg : ∀ (m : List Int) (x : Int), m.length ≤ 6 → (∀ k, -3 ≤ m.getD k 0 ∧ m.getD k 0 ≤ 30) → -3 ≤ x → x ≤ 31 → Few (m ++ [x]) := by
    intro m x hm1 hm2 hx1 hx2
    refine ⟨by simp; omega, fun k => ?_⟩
    rcases Nat.lt_trichotomy k m.length with h | h | h
    · rw [getD_app_lt x h]; have := hm2 k; omega
    · subst h; rw [getD_app_eq]; omega
    · rw [List.getD_eq_getElem?_getD, List.getElem?_eq_none (by simp; omega)]; simp
  obtain ⟨h2, _, _, _, _⟩ := (okH_iff l b).1 ok
  have hx := hl.2 (l.length - 1)
  refine ⟨h2, hx.1, hx.2, hg l _ hl.1 hl.2 hx.1 (by have := hx.2; unfold lstH; omega), hg _ _ (by simp; omega) (fun k => ?_) (by have := hx.1; unfold lstH; omega) (by have := hx.2; unfold lstH; omega), wrk_more ok, wrk_far ok, wrk_byte ok h1, wds_yes ((okW_iff _ _).2 (by omega))⟩
  by_cases hk : k < l.length - 1
  · rw [List.getD_eq_getElem?_getD, List.getElem?_take_of_lt hk, ← List.getD_eq_getElem?_getD]
    exact hl.2 k
  · rw [List.getD_eq_getElem?_getD, List.getElem?_eq_none (by simp; omega)]
    simp

set_option maxRecDepth 100000 in
set_option maxHeartbeats 2000000 in
theorem walkMore_any (l : List Int) (b : Int) (s : Option Addr) (cap : Nat) (w : World) (hr : RdA w s (vi l)) (hS : Steps w) (hT : Tabs w) :
    Calls Tryd.prog 5 #[.slice s l.length cap, .int .i64 b] w fun e w' => e = .returned (.bool true) ∧ Below w.heap.size w w' := by
  obtain ⟨i0, ki, hz0, hz1, hz2⟩ := info_parts Tryd.info3
  have LV := lives_any w hS hT
  have K1 := fun v h => small9_any l s cap v h
  have HR : Hid (RdA w s (vi l)) := hr
  have FE := smL_Few l
  obtain ⟨q, eq, q0, q1⟩ := tm_in b 64 (by omega)
  have SF := smL_few l
  have MI := more_inv (smL l) q q0 q1 SF
  have K4 := fun a c v h => work_any (smL l) q a c v FE h
  have KN := fun v => work_any [] q none 0 v ⟨by simp, fun k => by simp⟩ (fun j x hj => by cases hj)
  rw [wrk_nil] at KN
  have hl6 := SF.1
  have HFE : Hid (Few (smL l)) := FE
  clear hS hT hr SF FE
  generalize l.length = n0 at *
  generalize smL l = S at *
  by_cases hneg : wrk S q < 0
  · clear MI HFE
    generalize wrk S q = T at *
    obtain ⟨n, hn⟩ : ∃ n, S.length = n := ⟨_, rfl⟩
    have HN : Hid (S.length = n) := hn
    rw [hn] at K4 hl6
    clear hn
    go_enter Tryd.func5, Tryd.ntmps5
    go_wp2_with fail
    go_at_call 8
    refine LV.mono ?_
    rintro e v1 ⟨rfl, hb⟩
    have B1 : Hid (Below w.heap.size w v1) := hb
    clear hb LV
    go_wp2_with fail
    go_at_call 9
    refine (K1 _ (HR.out.below B1.out)).mono ?_
    rintro e v2 hrow
    obtain ⟨a, cp, rfl, _, rd, _, hb⟩ := hrow.rd
    have B2 : Hid (Below w.heap.size w v2) := nxt B1.out hb
    have R2 : Hid (RdA v2 a (vi S)) := RdA.of rd
    rw [HN.out]
    clear hb K1 hrow rd B1
    go_wp2_with fail
    go_at_call 12
    refine (K4 _ _ _ R2.out).mono ?_
    rintro e v3 ⟨rfl, hd⟩
    have B3 : Hid (Below w.heap.size w v3) := nxt B2.out hd.below
    clear hd K4 B2 R2
    by_cases hz : n = 0
    · subst hz
      go_wp2
      go_ret
      exact ⟨rfl, B3.out⟩
    · have hz1 : ¬ (n : Int) = 0 := by omega
      have hz2 : (0 : Int) < (n : Int) := by omega
      have hz3 : 0 < n := by omega
      go_wp2_with fail
      go_at_call 12
      refine (KN _).mono ?_
      rintro e v4 ⟨rfl, hd⟩
      have B4 : Hid (Below w.heap.size w v4) := nxt B3.out hd.below
      clear hd KN B3
      go_wp2
      go_ret
      exact ⟨rfl, B4.out⟩
  · obtain ⟨m1, m2, m3, m4, m5, m6, m7, m8, m9⟩ := MI hneg
    have KM := fun a c v h => work_any (S ++ [lstH S]) q a c v m4 h
    have KF := fun a c v h => work_any (S.take (S.length - 1) ++ [lstH S + 1]) q a c v m5 h
    have KB := fun a c v h => work_any S (q + 1) a c v HFE.out h
    have KW := fun v => words_any (S.length : Int) q v (by omega)
    rw [m9] at KW
    have tb := tl_in q0 (show q ≤ 64 by omega)
    have wi1 := wrk_in (l := S) (b := q) HFE.out
    have HL : Hid ((vi S)[S.length - 1]? = some (.int .i64 (lstH S))) := vi_at (by omega)
    clear m4 m5 m9 HFE MI
    generalize hmo : S ++ [lstH S] = MO at *
    generalize hfa : S.take (S.length - 1) ++ [lstH S + 1] = FA at *
    have HMO : Hid (vi S ++ [.int .i64 (lstH S)] = vi MO) := by unfold Hid; rw [← hmo, vi_snoc]
    have HFA : Hid (vi (S.take (S.length - 1)) ++ [.int .i64 (lstH S + 1)] = vi FA) := by unfold Hid; rw [← hfa, vi_snoc]
    have HML : Hid (MO.length = S.length + 1) := by unfold Hid; rw [← hmo]; simp
    have HFL : Hid (FA.length = S.length) := by unfold Hid; rw [← hfa]; simp; omega
    clear hmo hfa
    generalize lstH S = L at *
    generalize wrk S q = T at *
    generalize wrk MO q = TM at *
    generalize wrk FA q = TF at *
    generalize wrk S (q + 1) = TB at *
    obtain ⟨t, ht⟩ : ∃ t, tl q = t := ⟨_, rfl⟩
    rw [ht] at KW tb
    obtain ⟨n, hn⟩ : ∃ n, S.length = n := ⟨_, rfl⟩
    have HN : Hid (S.length = n) := hn
    rw [hn] at K4 KB KW HL HML HFL hl6 m1 HFA
    rw [HML.out] at KM
    rw [HFL.out] at KF
    obtain ⟨W, hW⟩ : ∃ W, (n : Int) + t = W := ⟨_, rfl⟩
    rw [hW] at KW
    have eW : IntKind.i64.wrap (W - (n : Int)) = t := by rw [IntWalk.i64_in _ (by omega)]; omega
    obtain ⟨n1, hn1⟩ : ∃ n1, n - 1 = n1 := ⟨_, rfl⟩
    rw [hn1] at HL HFA
    have e1 : IntKind.i64.wrap ((n : Int) - 1) = (n1 : Int) := by rw [IntWalk.i64_in _ (by omega)]; omega
    have n2 : n1 < n := by omega
    have n3 : (n1 : Int) < (n : Int) := by omega
    have n4 : (0 : Int) ≤ (n1 : Int) := by omega
    clear hn ht hW hn1 KN
    go_enter Tryd.func5, Tryd.ntmps5
    go_wp2_with fail
    go_at_call 8
    refine LV.mono ?_
    rintro e v1 ⟨rfl, hb⟩
    have B1 : Hid (Below w.heap.size w v1) := hb
    clear hb LV
    go_wp2_with fail
    go_at_call 9
    refine (K1 _ (HR.out.below B1.out)).mono ?_
    rintro e v2 hrow
    obtain ⟨v, rfl, own, hb⟩ := hrow
    obtain ⟨g, cp, rfl, hcp, _, hg0, hg, hcell⟩ := own.form (by rw [vi_len, HN.out]; omega)
    rw [vi_len, HN.out] at hcp ⊢
    have B2 : Hid (Below w.heap.size w v2) := nxt B1.out hb
    have R2 : Hid (RdA v2 (some ⟨g, 0, none⟩) (vi S)) := fun j x hj => ⟨g, 0, rfl, hg, by rw [Nat.zero_add]; exact hcell j x hj⟩
    clear hb K1 B1 own hcell hg0
    go_wp2_with fail
    go_at_call 12
    refine (K4 _ _ _ R2.out).mono ?_
    rintro e v3 ⟨rfl, hd⟩
    have B3 : Hid (Below w.heap.size w v3) := nxt B2.out hd.below
    have R3 : Hid (RdA v3 (some ⟨g, 0, none⟩) (vi S)) := R2.out.below hd.below
    have hg3 : g < v3.heap.size := Nat.lt_of_lt_of_le hg hd.below.size
    have c1 : v3.cell? ⟨g, n1, none⟩ = some (.int .i64 L) := by
      obtain ⟨g', o', e', _, c⟩ := R3.out n1 _ HL.out
      simp only [Option.some.injEq, Addr.mk.injEq] at e'
      obtain ⟨rfl, rfl, _⟩ := e'
      rw [Nat.zero_add] at c
      exact c
    clear hd K4 B2 R2 hg
    have hyl : (vi S).length = n := by rw [vi_len]; exact HN.out
    have hyt : (vi (S.take n1)).length = n1 := by rw [vi_len, List.length_take, HN.out]; omega
    have hl1 : Hid ((vi S).length ≤ 1000000) := by unfold Hid; rw [hyl]; omega
    have hl2 : Hid ((vi (S.take n1)).length ≤ 1000000) := by unfold Hid; rw [hyt]; omega
    have hl3 : Hid (([] : List Value).length + n ≤ 1000000) := by unfold Hid; simp; omega
    have hl4 : Hid (([] : List Value).length + n1 ≤ 1000000) := by unfold Hid; simp; omega
    have hyl' : Hid ((vi S).length = n) := hyl
    have hyt' : Hid ((vi (S.take n1)).length = n1) := hyt
    have n5 : (n1 : Int) ≤ (cp : Int) := by omega
    have n6 : n1 ≤ cp := by omega
    have n7 : ¬ T < 0 := by omega
    clear hyl hyt hneg
    go_wp2_with (first
      | (at_builtin; refine wpList_app_rows rfl (.tmp 43) (.tmp 44) 22 3 i0 (.int .i64 0) 8 rfl Tryd.underlying22 ki hz0 hz1 hz2 rfl (by decide) v3.heap.size v3 (.slice none 0 0) [] rfl (Own.nil _ _ _) (some ⟨g, 0, none⟩) n cp rfl (vi S) hyl'.out R3.out (fun e => by cases e) (fun x hx => by cases hx; rfl) (vi_one _) hl3.out (Nat.le_refl _) ?_; intro v1' u3 o1 g1 _; have C4 : Hid (Below v3.heap.size v3 u3) := Below.grown (Below.refl _ _) g1 (Nat.le_refl _) (fun q hq => by simp [Value.ownBlock] at hq); have O4 : Hid (Own 3 u3 v3.heap.size v1' (vi S)) := o1; clear o1 g1)
      | (at_builtin; refine wpList_app_one rfl (.tmp 46) (.tmp 48) 22 3 i0 (.int .i64 0) 8 rfl Tryd.underlying22 ki hz0 hz1 hz2 rfl (by decide) v3.heap.size u3 _ _ (.int .i64 L) rfl O4.out rfl rfl hl1.out C4.out.size ?_; intro v2' u4 o2 k2; have C5 : Hid (Below v3.heap.size v3 u4) := k2.2.1 _ C4.out; have O5 : Hid (Own 3 u4 v3.heap.size v2' (vi MO)) := HMO.out ▸ o2; have R5 : Hid (RdA u4 (some ⟨g, 0, none⟩) (vi (S.take n1))) := (R3.out.below C5.out).take n1; clear o2 k2 C4 O4)
      | (at_builtin; refine wpList_app_rows rfl (.tmp 50) (.tmp 55) 22 3 i0 (.int .i64 0) 8 rfl Tryd.underlying22 ki hz0 hz1 hz2 rfl (by decide) u4.heap.size u4 (.slice none 0 0) [] rfl (Own.nil _ _ _) (some ⟨g, 0, none⟩) n1 cp rfl (vi (S.take n1)) hyt'.out R5.out (fun e => by cases e) (fun x hx => by cases hx; rfl) (vi_one _) hl4.out (Nat.le_refl _) ?_; intro v3' u5 o3 g3 _; have C6 : Hid (Below u4.heap.size u4 u5) := Below.grown (Below.refl _ _) g3 (Nat.le_refl _) (fun q hq => by simp [Value.ownBlock] at hq); have O6 : Hid (Own 3 u5 u4.heap.size v3' (vi (S.take n1))) := o3; clear o3 g3)
      | (at_builtin; refine wpList_app_one rfl (.tmp 57) (.tmp 60) 22 3 i0 (.int .i64 0) 8 rfl Tryd.underlying22 ki hz0 hz1 hz2 rfl (by decide) u4.heap.size u5 _ _ (.int .i64 (L + 1)) rfl O6.out rfl rfl hl2.out C6.out.size ?_; intro v4' u6 o4 k4; have C7 : Hid (Below u4.heap.size u4 u6) := k4.2.1 _ C6.out; have O7 : Hid (Own 3 u6 u4.heap.size v4' (vi FA)) := HFA.out ▸ o4; clear o4 k4 C6 O6))
    have B6 : Hid (Below w.heap.size w u6) := nxt (B3.out.trans (C5.out.mono B3.out.size)) C7.out
    have RS : Hid (RdA u6 (some ⟨g, 0, none⟩) (vi S)) := (R3.out.below C5.out).below C7.out
    obtain ⟨am, cm, rfl, _, _, rm⟩ := O5.out.rd
    obtain ⟨af, cf, rfl, _, _, rf⟩ := O7.out.rd
    rw [vi_len, HML.out]
    rw [vi_len, HFL.out]
    have RM : Hid (RdA u6 am (vi MO)) := (RdA.of rm).below C7.out
    have RF : Hid (RdA u6 af (vi FA)) := RdA.of rf
    clear C5 C7 O5 O7 rm rf R3 B3 R5 c1
    go_at_call 10
    refine (KW _).mono ?_
    rintro e v7 ⟨rfl, rfl⟩
    clear KW
    obtain ⟨t1, t2, t3, t4⟩ := tb
    go_wp2_with fail
    go_at_call 12
    refine (KM _ _ _ RM.out).mono ?_
    rintro e v8 ⟨rfl, hd⟩
    have B8 : Hid (Below w.heap.size w v8) := nxt B6.out hd.below
    have RS8 : Hid (RdA v8 (some ⟨g, 0, none⟩) (vi S)) := RS.out.below hd.below
    have RF8 : Hid (RdA v8 af (vi FA)) := RF.out.below hd.below
    clear hd KM B6 RS RF RM
    go_wp2_with fail
    go_at_call 12
    refine (KF _ _ _ RF8.out).mono ?_
    rintro e v9 ⟨rfl, hd⟩
    have B9 : Hid (Below w.heap.size w v9) := nxt B8.out hd.below
    have RS9 : Hid (RdA v9 (some ⟨g, 0, none⟩) (vi S)) := RS8.out.below hd.below
    clear hd KF B8 RS8 RF8
    go_wp2_with fail
    go_at_call 12
    refine (KB _ _ _ RS9.out).mono ?_
    rintro e v10 ⟨rfl, hd⟩
    have B10 : Hid (Below w.heap.size w v10) := nxt B9.out hd.below
    clear hd KB B9 RS9
    go_wp2
    go_ret
    exact ⟨rfl, B10.out⟩
end Go.Proofs.YtaohimmmhpmgdaaDoor
