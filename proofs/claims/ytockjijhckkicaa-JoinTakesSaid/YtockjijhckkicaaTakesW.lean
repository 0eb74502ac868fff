/-
  The walk of JoinTakes.
-/
import Derived.Test.YtockjijhckkicaaStep
import Derived.Laws.AppendOwnNone
namespace Go.Proofs.Ytockjijhckkicaa
open Go.RowKit

/-- append of a row that came in, which may be nil. -/
theorem wpList_app_src {P : Program} {ops : Array Oper} {rest : List Oper} {o : Oper} {a : Act} {Q : Exit → Act → World → Prop} (hgd : o.guard = none) (s x : Operand) (t e : TypeId) (i : TypeInfo) (z : Value) (bytes : Nat)
    (ho : o.op = .call { callee := .builtin .append, args := #[s, x], argTypes := #[t, t] })
    (ht : P.underlying t = some (.slice e)) (hi : P.info? e = some i) (hz : i.zero = some z) (h1 : i.size = 1) (hby : i.bytes = bytes) (hzs : z.cells.size = 1) (hb8 : bytes ≤ 64)
    (B : Nat) (w : World) (v : Value) (xs : List Value) (hs : a.eval s = v) (hown : Own e w B v xs) (ax : Option Addr) (m c : Nat) (hx : a.eval x = .slice ax m c) (hnil : ax = none → m = 0 ∧ c = 0) (ys : List Value) (hm : ys.length = m) (hr : Rd w ax ys) (hone : ∀ u ∈ ys, u.oneCell' = true)
    (hlen : xs.length + m ≤ 1000000) (hbase : B ≤ w.heap.size)
    (h : ∀ v' w', Own e w' B v' (xs ++ ys) → w.grownBy w' v.ownBlock → wpList P ops Q rest (a.put o.dst v') w') : wpList P ops Q (o :: rest) a w := by
  cases ax with
  | none =>
    obtain ⟨rfl, rfl⟩ := hnil rfl
    obtain rfl := List.eq_nil_of_length_eq_zero hm
    refine wpList_append_own_none hgd s x t ho B e i 1 ht hi v xs.length xs hs hown hx (h v w ?_ ⟨rfl, rfl, rfl, Nat.le_refl _, fun _ _ _ => rfl⟩)
    rw [List.append_nil]
    exact hown
  | some ad =>
    refine wpList_append_own _ hgd s x t ho B e i z 1 bytes ht hi hz h1 hby hzs (by decide) v xs.length xs hs hown ad m c ys hx (by rw [hm, Nat.mul_one]) ?_ hone ?_ ?_ hbase ?_
    · intro j u hj
      obtain ⟨g', o', e1, _, h3⟩ := hr j u hj
      simp only [Option.some.injEq] at e1
      subst e1
      rw [WideShapes.add_plain]
      exact h3
    · unfold maxLen; omega
    · have : (xs.length + m) * bytes ≤ (xs.length + m) * 64 := Nat.mul_le_mul_left _ hb8
      omega
    · intro v' w' hown' hgrow _
      refine h v' w' ?_ hgrow
      unfold Own
      rw [List.length_append, hm]
      exact hown'
theorem vw_set (l : List Nat) (k x : Nat) : vw (l.set k x) = (vw l).set k (.int .u64 (x : Int)) := by unfold vw; rw [List.map_set]
section
variable {P : Program} {ops : Array Oper} {Q : Exit → Act → World → Prop} {md : Region.Mode} {S : World → Prop} {st : Nat}
theorem wpAnyG_any {fuel : Nat} {listed : Array Bool} {a : Act} {w : World} (l : List Nat) (hr : Region.ready md ops listed = l) (hl : l.isEmpty = false)
    (h : ∀ i ∈ l, wpOp P ops Q i (fun a' w' => ((listed.setIfInBounds i true).getD st true = true ∨ S w') ∧ wpAnyG P md ops Q S st fuel (listed.setIfInBounds i true) a' w') a w) : wpAnyG P md ops Q S st (fuel + 1) listed a w := by
  subst hr
  exact ⟨fun h0 => (by rw [h0] at hl; cases hl), h⟩
theorem wpOpG {i : Nat} {o : Oper} {fuel : Nat} {listed : Array Bool} {a : Act} {w : World} (ho : ops[i]? = some o)
    (h : ∀ K' : Act → World → Prop, Shut (∀ a w, ((listed.setIfInBounds i true).getD st true = true ∨ S w) → wpAnyG P md ops Q S st fuel (listed.setIfInBounds i true) a w → K' a w) → if Region.wanted o (yielded ops a.tmps) = true then Oper.wp P o a w K' Q else K' (a.put o.dst undef) w) :
    wpOp P ops Q i (fun a' w' => ((listed.setIfInBounds i true).getD st true = true ∨ S w') ∧ wpAnyG P md ops Q S st fuel (listed.setIfInBounds i true) a' w') a w :=
  wpOp_step ho (fun K' hK => h K' (fun a w hS hW => hK a w ⟨hS, hW⟩))
end
theorem mem2 {i a b : Nat} (h : i ∈ [a, b]) : i = a ∨ i = b := by simpa using h
theorem mem3 {i a b c : Nat} (h : i ∈ [a, b, c]) : i = a ∨ i = b ∨ i = c := by simpa using h

set_option maxRecDepth 100000 in
set_option maxHeartbeats 32000000 in
theorem takes_law (ps : List Pc) (a : Option Addr) (cap : Nat) (at' : Int) (ol : List Nat) (ao : Option Addr) (capo : Nat) (w : World) (hr : PsRd w a ps) (hoc : ol.length ≤ capo) (hom : capo ≤ maxLen) (hoW : ∀ y ∈ ol, y < 18446744073709551616) (hro : Rd w ao (vw ol)) (hnil : ao = none → capo = 0) :
    Calls Try.prog 3 #[.slice a ps.length cap, .int .i64 at', .slice ao ol.length capo] w fun e w' => e = .returned (.bool true) ∧ Below w.heap.size w w' := by
  obtain ⟨i0, ki, hz0, hz1, hz2⟩ := info_parts Try.info28
  have hs := wj_small ps 8
  have hlt8 := wj_lt ps 8
  have WJ := fun w' h => wordsj_any ps a cap w' h
  have HR : Hid (PsRd w a ps) := hr
  generalize wj ps 8 = L at *
  generalize kj ps 8 = KK at *
  have HL8 : Hid (∀ y ∈ L, y < 18446744073709551616) := hlt8
  have TC := fun j W h1 h2 b w h => take_any j W h1 h2 b w h
  have RC := fun j W h1 h2 w => rtake_any j W h1 h2 w
  have HXA : Hid (∀ (M : List Nat) k, (sj takeR M k).x.size ≤ 6 * k) := fun M => sj_x (L := M) takeR_six
  have HSA : Hid (∀ (M : List Nat) k x, M[k]? = some x → sj takeR M (k + 1) = (takeR (sj takeR M k) x).1) := show _ from fun M k x h => (sj_step (T := takeR) h).1
  have HZA : Hid (∀ (M : List Nat), sj takeR M 0 = zjs) := show _ from fun M => rfl
  obtain ⟨n, hn⟩ : ∃ n, L.length = n := ⟨_, rfl⟩
  have HN : Hid (L.length = n) := hn
  have HVL : Hid ((vw L).length = n) := (vw_len L).trans hn
  obtain ⟨m, hm⟩ : ∃ n, KK.length = n := ⟨_, rfl⟩
  rw [hn] at hs
  rw [hm] at WJ hs
  generalize sj takeR = SJF at *
  generalize takeR = TK at *
  have HRO : Hid (Rd w ao (vw ol)) := hro
  have HOW : Hid (∀ y ∈ ol, y < 18446744073709551616) := hoW
  have HNIL : Hid (ao = none → capo = 0) := hnil
  obtain ⟨no, hno⟩ : ∃ n, ol.length = n := ⟨_, rfl⟩
  have HNO : Hid (ol.length = no) := hno
  rw [hno] at hoc ⊢
  unfold maxLen at hom
  clear hr hn hm hlt8 hro hoW hnil hno
  have LV := lives_any w
  have u3 : (n : Int) ≤ 1000 := by omega
  go_enter Try.func3, Try.ntmps3
  go_wp2_with fail
  go_at_call 8
  with_reducible refine LV.mono ?_
  rintro e w1 ⟨rfl, hb1⟩
  have HB1 : Hid (Below w.heap.size w w1) := hb1
  have WJ1 := WJ w1 (HR.out.below hb1)
  have hwz : w.heap.size ≤ w1.heap.size := hb1.size
  clear LV hb1 WJ HR
  go_wp2_with fail
  go_at_call 9
  with_reducible refine WJ1.mono ?_
  rintro e w2 ⟨v1, v2, rfl, ow, ok, hb2⟩
  have HB2 : Hid (Below w1.heap.size w1 w2) := hb2
  have HOWN : Hid (Own 28 w2 w1.heap.size v1 (vw L)) := ow
  obtain ⟨a1, cap1, rfl, hc1, hm1, -⟩ := OwnK.rd (k := 1) ow (by decide)
  obtain ⟨a2, cap2, rfl, -, -, -⟩ := ok.rd (by decide)
  rw [HVL.out] at hc1 HOWN ⊢
  clear WJ1 hb2 ow ok
  obtain ⟨M, hM⟩ : ∃ M, min no 20 = M := ⟨_, rfl⟩
  have HM : Hid (min no 20 = M) := hM
  have hM20 : M ≤ 20 := by omega
  have hMn : M ≤ no := by omega
  go_upto_region 4 with fail
  go_cut [2] from 26 to 30 (fun v wc => v = .slice ao M capo ∧ w2 = wc)
  case first =>
    by_cases h20 : no ≤ 20
    · have f1 : ¬ (20 : Int) < (no : Int) := by omega
      have f2 : (no : Int) ≤ 20 := by omega
      obtain rfl : M = no := by omega
      clear hM
      go_wp2
      all_goals
        go_meet
        exact ⟨by first | rfl | (simp; omega), rfl⟩
    · have f1 : (20 : Int) < (no : Int) := by omega
      have f2 : ¬ (no : Int) ≤ 20 := by omega
      have f3 : 20 ≤ capo := by omega
      obtain rfl : M = 20 := by omega
      clear hM
      go_wp2
      all_goals
        go_meet
        exact ⟨by first | rfl | (simp; omega), rfl⟩
  case rest =>
  obtain ⟨rfl, rfl⟩ := hcut
  have WL20 : Hid (Rd w ao (vw (ol.take 20))) := by
    rw [vw_take]
    exact HRO.out.take 20
  have WLn : Hid ((ol.take 20).length = M) := by rw [List.length_take, HNO.out, Nat.min_comm]; exact hM
  have WLw : Hid (∀ y ∈ ol.take 20, y < 18446744073709551616) := fun y hy => HOW.out y (List.mem_of_mem_take hy)
  have HNM : Hid (ao = none → M = 0 ∧ capo = 0) := show _ from fun h => by
    have := HNIL.out h
    exact ⟨by omega, this⟩
  clear hM HM HRO HNO HOW HNIL hMn hoc hom
  generalize ol.take 20 = W0 at *
  go_upto_region 5 with fail
  go_cut [38] from 31 to 37 (fun v wc => v = .bool (decide (0 < n) && decide (0 < M)) ∧ w2 = wc)
  case first =>
    by_cases hn0 : 0 < n
    · have f1 : (0 : Int) < (n : Int) := by omega
      by_cases hm0 : 0 < M
      · have f2 : (0 : Int) < (M : Int) := by omega
        go_wp2
        go_meet
        exact ⟨by simp [hn0, hm0], rfl⟩
      · have f2 : ¬ (0 : Int) < (M : Int) := by omega
        go_wp2
        go_meet
        exact ⟨by simp [hn0, hm0], rfl⟩
    · have f1 : ¬ (0 : Int) < (n : Int) := by omega
      go_wp2
      go_meet
      exact ⟨by simp [hn0], rfl⟩
  case rest =>
  obtain ⟨rfl, rfl⟩ := hcut
  obtain ⟨G, hG⟩ : ∃ G, (decide (0 < n) && decide (0 < M)) = G := ⟨_, rfl⟩
  have HG : Hid (G = true → 0 < n ∧ 0 < M) := show _ from fun h => by
    rw [h] at hG
    simpa using hG
  rw [hG]
  clear hG
  go_upto_if 38 with fail
  go_cut [] from 39 to 50 (fun wc => ∃ L1 : List Nat, L1.length = n ∧ (∀ y ∈ L1, y < 18446744073709551616) ∧ Own 28 wc w1.heap.size (.slice a1 n cap1) (vw L1) ∧ Below w1.heap.size w1 wc)
  case first =>
    cases G
    · go_wp2
      go_meet
      exact ⟨L, HN.out, HL8.out, HOWN.out, HB2.out⟩
    · obtain ⟨q1, q2⟩ := HG.out rfl
      obtain ⟨x0, hx0⟩ : ∃ x, W0[0]? = some x := ⟨_, List.getElem?_eq_getElem (by rw [WLn.out]; exact q2)⟩
      have hx0w : x0 < 18446744073709551616 := WLw.out x0 (List.mem_of_getElem? hx0)
      obtain ⟨g0, o0, rfl, hg0, c0'⟩ := WL20.out 0 (.int .u64 (x0 : Int)) (by unfold vw; rw [List.getElem?_map, hx0]; rfl)
      have c0 := (HB2.out.cell (p := ⟨g0, o0 + 0, none⟩) (Nat.lt_of_lt_of_le (show g0 < w1.heap.size from Nat.lt_of_lt_of_le hg0 hwz) (Nat.le_refl _))).trans ((HB1.out.cell (p := ⟨g0, o0 + 0, none⟩) hg0).trans c0')
      rw [Nat.add_zero] at c0
      obtain ⟨hlen, hor⟩ := HOWN.out
      rcases hor with ⟨hnn, -⟩ | ⟨g, cap', cur, e, hg, hh, hcs, hcm, hcz, htk⟩
      · exfalso
        injection hnn with _ h2
        omega
      injection e with e1 e2 e3
      subst e1 e3
      clear e2
      have KB : Bk w2 g cur 28 := hh
      obtain ⟨k, hk⟩ : ∃ k : Nat, IntKind.i64.wrap ((IntKind.u64.wrap at').tmod (n : Int)) = (k : Int) := by
        obtain ⟨z0, z1⟩ := md_in at' (m := (n : Int)) (by omega) (by omega)
        exact ⟨(md at' (n : Int)).toNat, by unfold md at z0 ⊢; omega⟩
      have hkq : k < n := by
        have := (md_in at' (m := (n : Int)) (by omega) (by omega)).2
        unfold md at this
        omega
      have kc := KB.cell k
      have kf := KB.free k
      obtain ⟨y, hy⟩ : ∃ y, cur[k]? = some y := ⟨_, Array.getElem?_eq_getElem (by omega)⟩
      rw [hy] at kc
      have u1 : IntKind.u64.wrap (n : Int) = (n : Int) := by rw [IntKind.wrap_u64]; omega
      have u2 : ¬ n = 0 := by omega
      have e0 : (0 : Int) ≤ (k : Int) := by omega
      have e1 : (k : Int) < (n : Int) := by omega
      have e2 : (0 : Int) < (M : Int) := by omega
      have hs0 := HOWN.out
      unfold Own at hs0
      rw [HVL.out] at hs0
      obtain ⟨s1, s2⟩ := World.ownsRow.stored hs0 k (.int .u64 (x0 : Int))
      have D1 : Hid (Own 28 (w2.setCell ⟨g, k, none⟩ (.int .u64 (x0 : Int))) w1.heap.size (.slice (some ⟨g, 0, none⟩) n cap1) (vw (L.set k x0))) := by
        rw [vw_set]
        unfold Own
        rw [List.length_set, HVL.out]
        exact s1
      have D2 : Hid (Below w1.heap.size w1 (w2.setCell ⟨g, k, none⟩ (.int .u64 (x0 : Int)))) := HB2.out.setCell hg _
      have D3 : Hid (∀ y ∈ L.set k x0, y < 18446744073709551616) := show _ from fun y hy => by
        rcases List.mem_or_eq_of_mem_set hy with h | rfl
        · exact HL8.out y h
        · exact hx0w
      have D4 : Hid ((L.set k x0).length = n) := by rw [List.length_set]; exact HN.out
      clear HOWN HB2 HL8 HN HG hh hcs hcm hcz htk hlen KB hy hs0 s1 s2 WL20 WLn WLw HNM HB1
      go_wp2_with fail
      have S1 : (fun V : World => V.cell? ⟨g0, o0, none⟩ = some (.int .u64 (x0 : Int)) ∧ V.cell? ⟨g, k, none⟩ = some y ∧ V.frozen? ⟨g, k, none⟩ = false) w2.drew := ⟨c0, kc, kf⟩
      refine wp_region_G (fun V : World => V.cell? ⟨g0, o0, none⟩ = some (.int .u64 (x0 : Int)) ∧ V.cell? ⟨g, k, none⟩ = some y ∧ V.frozen? ⟨g, k, none⟩ = false) 12 (by kernel_rfl) ?_
      refine wpAnyG_take [12] (some 39) (i := 0) (v := ?vs0) rfl rfl (by kernel_rfl) (by kernel_rfl) (by kernel_rfl) (by kernel_rfl) (fun _ _ _ h => h) (Or.inl ⟨by rfl, ?ys0⟩) S1 ?rs0
      case ys0 => (intro V hSV; obtain ⟨d0, d1, d2⟩ := hSV; go_simp; try with_reducible rfl)
      simp only [Act.put, List.setIfInBounds_toArray, List.set_cons_zero, List.set_cons_succ]
      refine wpAnyG_take [12] (some 40) (i := 1) (v := ?vs1) rfl rfl (by kernel_rfl) (by kernel_rfl) (by kernel_rfl) (by kernel_rfl) (fun _ _ _ h => h) (Or.inl ⟨by rfl, ?ys1⟩) S1 ?rs1
      case ys1 => (intro V hSV; obtain ⟨d0, d1, d2⟩ := hSV; go_simp; try with_reducible rfl)
      simp only [Act.put, List.setIfInBounds_toArray, List.set_cons_zero, List.set_cons_succ]
      refine wpAnyG_take [12] (some 41) (i := 2) (v := ?vs2) rfl rfl (by kernel_rfl) (by kernel_rfl) (by kernel_rfl) (by kernel_rfl) (fun _ _ _ h => h) (Or.inl ⟨by rfl, ?ys2⟩) S1 ?rs2
      case ys2 => (intro V hSV; obtain ⟨d0, d1, d2⟩ := hSV; go_simp; try with_reducible rfl)
      simp only [Act.put, List.setIfInBounds_toArray, List.set_cons_zero, List.set_cons_succ]
      refine wpAnyG_take [12] (some 42) (i := 3) (v := ?vs3) rfl rfl (by kernel_rfl) (by kernel_rfl) (by kernel_rfl) (by kernel_rfl) (fun _ _ _ h => h) (Or.inl ⟨by rfl, ?ys3⟩) S1 ?rs3
      case ys3 => (intro V hSV; obtain ⟨d0, d1, d2⟩ := hSV; go_simp; try with_reducible rfl)
      simp only [Act.put, List.setIfInBounds_toArray, List.set_cons_zero, List.set_cons_succ]
      refine wpAnyG_take [12] (some 43) (i := 4) (v := ?vs4) rfl rfl (by kernel_rfl) (by kernel_rfl) (by kernel_rfl) (by kernel_rfl) (fun _ _ _ h => h) (Or.inl ⟨by rfl, ?ys4⟩) S1 ?rs4
      case ys4 => (intro V hSV; obtain ⟨d0, d1, d2⟩ := hSV; go_simp; try with_reducible rfl)
      simp only [Act.put, List.setIfInBounds_toArray, List.set_cons_zero, List.set_cons_succ]
      refine wpAnyG_take [12] (some 44) (i := 5) (v := ?vs5) rfl rfl (by kernel_rfl) (by kernel_rfl) (by kernel_rfl) (by kernel_rfl) (fun _ _ _ h => h) (Or.inl ⟨by rfl, ?ys5⟩) S1 ?rs5
      case ys5 => (intro V hSV; obtain ⟨d0, d1, d2⟩ := hSV; go_simp; try with_reducible rfl)
      simp only [Act.put, List.setIfInBounds_toArray, List.set_cons_zero, List.set_cons_succ]
      refine wpAnyG_take [12] (some 45) (i := 6) (v := ?vs6) rfl rfl (by kernel_rfl) (by kernel_rfl) (by kernel_rfl) (by kernel_rfl) (fun _ _ _ h => h) (Or.inl ⟨by rfl, ?ys6⟩) S1 ?rs6
      case ys6 => (intro V hSV; obtain ⟨d0, d1, d2⟩ := hSV; go_simp; try with_reducible rfl)
      simp only [Act.put, List.setIfInBounds_toArray, List.set_cons_zero, List.set_cons_succ]
      refine wpAnyG_take [12] (some 46) (i := 7) (v := ?vs7) rfl rfl (by kernel_rfl) (by kernel_rfl) (by kernel_rfl) (by kernel_rfl) (fun _ _ _ h => h) (Or.inl ⟨by rfl, ?ys7⟩) S1 ?rs7
      case ys7 => (intro V hSV; obtain ⟨d0, d1, d2⟩ := hSV; go_simp; try with_reducible rfl)
      simp only [Act.put, List.setIfInBounds_toArray, List.set_cons_zero, List.set_cons_succ]
      refine wpAnyG_take [12] (some 47) (i := 8) (v := ?vs8) rfl rfl (by kernel_rfl) (by kernel_rfl) (by kernel_rfl) (by kernel_rfl) (fun _ _ _ h => h) (Or.inl ⟨by rfl, ?ys8⟩) S1 ?rs8
      case ys8 => (intro V hSV; obtain ⟨d0, d1, d2⟩ := hSV; go_simp; try with_reducible rfl)
      simp only [Act.put, List.setIfInBounds_toArray, List.set_cons_zero, List.set_cons_succ]
      refine wpAnyG_take [12] (some 48) (i := 9) (v := ?vs9) rfl rfl (by kernel_rfl) (by kernel_rfl) (by kernel_rfl) (by kernel_rfl) (fun _ _ _ h => h) (Or.inl ⟨by rfl, ?ys9⟩) S1 ?rs9
      case ys9 => (intro V hSV; obtain ⟨d0, d1, d2⟩ := hSV; go_simp; try with_reducible rfl)
      simp only [Act.put, List.setIfInBounds_toArray, List.set_cons_zero, List.set_cons_succ]
      refine wpAnyG_take [12] (some 49) (i := 10) (v := ?vs10) rfl rfl (by kernel_rfl) (by kernel_rfl) (by kernel_rfl) (by kernel_rfl) (fun _ _ _ h => h) (Or.inl ⟨by rfl, ?ys10⟩) S1 ?rs10
      case ys10 => (intro V hSV; obtain ⟨d0, d1, d2⟩ := hSV; go_simp; try with_reducible rfl)
      simp only [Act.put, List.setIfInBounds_toArray, List.set_cons_zero, List.set_cons_succ]
      refine wpAnyG_take [12] (some 50) (i := 11) (v := ?vs11) rfl rfl (by kernel_rfl) (by kernel_rfl) (by kernel_rfl) (by kernel_rfl) (fun _ _ _ h => h) (Or.inl ⟨by rfl, ?ys11⟩) S1 ?rs11
      case ys11 => (intro V hSV; obtain ⟨d0, d1, d2⟩ := hSV; go_simp; try with_reducible rfl)
      simp only [Act.put, List.setIfInBounds_toArray, List.set_cons_zero, List.set_cons_succ]
      refine wpAnyG_one (i := 12) (by kernel_rfl) rfl (fun K hK => ?_)
      go_simp
      refine hK.out _ _ (Or.inl (by kernel_rfl)) ?_
      clear hK K
      refine wpAnyG_done (by kernel_rfl) ?_ _
      go_wp2_with fail
      go_meet
      exact ⟨L.set k x0, D4.out, D3.out, OwnK.below (k := 1) D1.out (Below.refl _ _).drew, D2.out.drew⟩
  case rest =>
  obtain ⟨L1, hl1, hw1, ho1, hb1⟩ := hcut
  have HO1 : Hid (Own 28 wc w1.heap.size (.slice a1 n cap1) (vw L1)) := ho1
  have HBC : Hid (Below w1.heap.size w1 wc) := hb1
  have HW1 : Hid (∀ y ∈ L1, y < 18446744073709551616) := hw1
  have HN1 : Hid (L1.length = n) := hl1
  clear HOWN HB2 HL8 HN HVL HG hl1 hw1 ho1 hb1
  have RS : Rd wc ao (vw W0) := (WL20.out.below HB1.out).below HBC.out
  have hls : (vw L1).length + M ≤ 1000000 := by rw [vw_len, HN1.out]; omega
  have hbs : w1.heap.size ≤ wc.heap.size := HBC.out.size
  have hlw : (vw W0).length = M := by rw [vw_len]; exact WLn.out
  have own : Own 28 wc w1.heap.size (.slice a1 n cap1) (vw L1) := HO1.out
  have hnm := HNM.out
  go_upto_region 8 with (at_builtin; go_loud (refine wpList_app_src rfl (.tmp 51) (.tmp 52) 23 28 i0 (.int .u64 0) 8 rfl Try.underlying23 ki hz0 hz1 hz2 rfl (by decide) w1.heap.size wc (.slice a1 n cap1) (vw L1) rfl own ao M capo rfl hnm (vw W0) hlw RS (vw_one _) hls hbs ?_; intro lv w4 o4 g4))
  have nl : ∀ r, (Value.slice a1 n cap1).ownBlock = some r → w1.heap.size ≤ r := fun r hr => (OwnK.lt (k := 1) HO1.out hr).1
  have B4 : Hid (Below w1.heap.size w1 w4) := Below.grown HBC.out g4 HBC.out.size nl
  rw [← vw_app] at o4
  obtain ⟨la, lz, rfl, hlz, -, rl4⟩ := Own.rd o4
  rw [vw_len] at hlz ⊢
  obtain ⟨LL, hLL⟩ : ∃ LL, L1 ++ W0 = LL := ⟨_, rfl⟩
  have hWL : ∀ y ∈ LL, y < 18446744073709551616 := fun y hy => by
    rw [← hLL] at hy
    rcases List.mem_append.1 hy with h | h
    · exact HW1.out y h
    · exact WLw.out y h
  have hLn : LL.length ≤ 1000 := by rw [← hLL, List.length_append, HN1.out, WLn.out]; omega
  rw [hLL] at rl4 hlz ⊢
  clear hLL g4 o4 own RS hls hbs hlw hnm nl HO1 HBC HW1 HN1 WL20 WLn WLw HNM hc1 hm1 hM20 u3 hs
  have HW4 : Hid (Rd w4 la (vw LL)) := rl4
  have HX : Hid (∀ k, (SJF LL k).x.size ≤ 6 * k) := HXA.out LL
  have HS : Hid (∀ k, k < LL.length → ∃ W : Nat, (vw LL)[k]? = some (.int .u64 (W : Int)) ∧ W < 18446744073709551616 ∧ SJF LL (k + 1) = (TK (SJF LL k) W).1) := show _ from fun k hk => by
    have hk' : LL[k]? = some LL[k] := List.getElem?_eq_getElem hk
    exact ⟨LL[k], by unfold vw; rw [List.getElem?_map, hk']; rfl, hWL _ (List.getElem_mem hk), HSA.out LL k _ hk'⟩
  have HZ : Hid (SJF LL 0 = zjs) := HZA.out LL
  generalize SJF LL = SJ at *
  obtain ⟨q, hq⟩ : ∃ q, LL.length = q := ⟨_, rfl⟩
  rw [hq] at HS hLn hlz ⊢
  clear hq hWL rl4 HXA HSA HZA
  have HBW : Hid (Below w.heap.size w w4) := HB1.out.trans (B4.out.mono hwz)
  have A0 : Hid (Bk (w4.alloc (.cells (pj zjs) 64)) w4.heap.size (pj zjs) 64) := Bk.new _ _ _
  have A1 : Hid (Below w4.heap.size w4 (w4.alloc (.cells (pj zjs) 64))) := (Below.refl _ _).alloc (Nat.le_refl _) _
  clear B4 hwz HB1
  go_upto_region 9 with (go_at_call 10; (with_reducible refine (new_any _).mono ?_); rintro e w' ⟨rfl, rfl⟩)
  generalize w4.alloc (.cells (pj zjs) 64) = v0 at *
  obtain ⟨b, hb⟩ : ∃ b, w4.heap.size = b := ⟨_, rfl⟩
  have HBB : Hid (w4.heap.size = b) := hb
  rw [hb] at A0 A1 ⊢
  have hb0 : b < v0.heap.size := A0.out.lt
  clear hb
  have C0 : Hid (Bk (v0.alloc (.cells #[.bool false, .int .i64 0, .int .i64 0, .int .i64 0, .string ⟨#[]⟩, .int .i64 0] 35)) b (pj zjs) 64) := A0.out.alloc _
  have C1 : Hid (Below b w4 (v0.alloc (.cells #[.bool false, .int .i64 0, .int .i64 0, .int .i64 0, .string ⟨#[]⟩, .int .i64 0] 35))) := A1.out.alloc (Nat.le_of_lt hb0) _
  have C2 : Hid (Bk (v0.alloc (.cells #[.bool false, .int .i64 0, .int .i64 0, .int .i64 0, .string ⟨#[]⟩, .int .i64 0] 35)) v0.heap.size #[.bool false, .int .i64 0, .int .i64 0, .int .i64 0, .string ⟨#[]⟩, .int .i64 0] 35) := Bk.new _ _ _
  go_upto_region 10 with fail
  generalize v0.alloc (.cells #[.bool false, .int .i64 0, .int .i64 0, .int .i64 0, .string ⟨#[]⟩, .int .i64 0] 35) = v1 at *
  obtain ⟨c, hc⟩ : ∃ b, v0.heap.size = b := ⟨_, rfl⟩
  rw [hc] at C2 hb0 ⊢
  clear hc A0 A1
  go_wp2_with fail
  go_loopw [11] (fun i wr => ∃ j : Nat, j ≤ q ∧ i = .int .i64 j ∧ Bk wr b (pj (SJ j)) 64 ∧ Bk wr c (jc (SJ j)) 35 ∧ Below b w4 wr) (fun i _ => q - (RowKit.intOf i).toNat)
  case atStart => exact ⟨0, Nat.zero_le _, rfl, by rw [HZ.out]; exact C0.out, by rw [HZ.out]; exact C2.out, C1.out⟩
  case round =>
    obtain ⟨j, hj, rfl, hjs, hjr, hbl⟩ := hrel
    clear C0 C1 C2 HZ
    have HB : Hid (Below b w4 wr) := hbl
    have HJ : Hid (Bk wr b (pj (SJ j)) 64) := hjs
    have HC : Hid (Bk wr c (jc (SJ j)) 35) := hjr
    have hbz : b < wr.heap.size := hjs.lt
    have hcz : c < wr.heap.size := hjr.lt
    clear hbl hjs hjr
    by_cases hlt : j < q
    case neg =>
      have e4 : ¬ (j : Int) < (q : Int) := by omega
      go_wp2
      go_ret
      exact ⟨rfl, HBW.out.trans (by have := HB.out; rw [← HBB.out] at this; exact this.mono HBW.out.size)⟩
    have e4 : (j : Int) < (q : Int) := by omega
    have e5 : (0 : Int) ≤ (j : Int) := by omega
    obtain ⟨W, hW, hW2, h1⟩ := HS.out j hlt
    obtain ⟨g, o, rfl, hg, c0'⟩ := HW4.out j _ hW
    have hgb : g < b := by rw [← HBB.out]; exact hg
    have c0 := (HB.out.cell (p := ⟨g, o + j, none⟩) hgb).trans c0'
    have hxx : (SJ j).x.size ≤ 6 * j := HX.out j
    have CC := TC (SJ j) W hW2 (by omega) b wr HJ.out
    have RR := RC (SJ j) W hW2 (by omega)
    obtain ⟨r, hr⟩ : ∃ r, TK (SJ j) W = r := ⟨_, rfl⟩
    rw [hr] at CC RR h1
    obtain ⟨S, hS⟩ : ∃ S, SJ j = S := ⟨_, rfl⟩
    rw [hS] at RR HC hxx
    clear hr hW hW2 c0' hg hS
    obtain ⟨⟨nb', ns, nd, nq', nx, nn⟩, ⟨ps', pd, pq, px⟩, pb, pe⟩ := r
    obtain ⟨sb, ss, sd, sq, sx, sn⟩ := S
    simp only at h1 hxx
    have HJ2 : Hid (SJ (j + 1) = ⟨nb', ns, nd, nq', nx, nn⟩) := h1
    clear h1
    simp only [pkv, pkc, jv, jc] at CC RR HC
    have HRR : Hid (∀ w, Calls Try.prog 12 #[.agg #[.bool sb, .int .i64 ss, .int .i64 sd, .int .i64 sq, .string sx, .int .i64 sn], .int .u64 (W : Int)] w fun e w' => e = .returned (.tuple #[.agg #[.bool nb', .int .i64 ns, .int .i64 nd, .int .i64 nq', .string nx, .int .i64 nn], .agg #[.int .i64 ps', .int .i64 pd, .int .i64 pq, .string px], .bool pb, .int .i64 pe]) ∧ Below w.heap.size w w') := RR
    clear RR
    go_upto_region 14 with (go_at_call 11; (with_reducible refine CC.mono ?_); rintro e w5 ⟨rfl, hk2, hg2⟩)
    have hne : ¬ b = c := by omega
    have K1 : Hid (Bk (w5.alloc (.cells #[.int .i64 ps', .int .i64 pd, .int .i64 pq, .string px] 33)) b (pj ⟨nb', ns, nd, nq', nx, nn⟩) 64) := hk2.alloc _
    have K2 : Hid (Bk (w5.alloc (.cells #[.int .i64 ps', .int .i64 pd, .int .i64 pq, .string px] 33)) c #[.bool sb, .int .i64 ss, .int .i64 sd, .int .i64 sq, .string sx, .int .i64 sn] 35) := (HC.out.gb hg2 (by omega)).alloc _
    have K3 : Hid (Bk (w5.alloc (.cells #[.int .i64 ps', .int .i64 pd, .int .i64 pq, .string px] 33)) w5.heap.size #[.int .i64 ps', .int .i64 pd, .int .i64 pq, .string px] 33) := Bk.new _ _ _
    have B1 : Hid (Below b w4 (w5.alloc (.cells #[.int .i64 ps', .int .i64 pd, .int .i64 pq, .string px] 33))) := (below_gb HB.out hg2 (Nat.le_refl _) (Nat.le_of_lt hbz)).alloc (Nat.le_trans (Nat.le_of_lt hbz) hg2.size) _
    have c1 : (w5.alloc (.cells #[.int .i64 ps', .int .i64 pd, .int .i64 pq, .string px] 33)).cell? ⟨g, o + j, none⟩ = some (.int .u64 (W : Int)) := by
      have := hg2.out.cell c0 (fun e => by injection e with e; simp only at e; omega)
      exact (((Below.refl w5.heap.size w5).alloc (Nat.le_refl _) (.cells #[.int .i64 ps', .int .i64 pd, .int .i64 pq, .string px] 33)).cell (p := ⟨g, o + j, none⟩) (Nat.lt_of_lt_of_le (Nat.lt_trans hgb hbz) hg2.size)).trans this
    have hcw : c < w5.heap.size := Nat.lt_of_lt_of_le hcz hg2.size
    clear CC HJ HC HB hk2 hg2 c0 hbz hcz
    generalize w5.alloc (.cells #[.int .i64 ps', .int .i64 pd, .int .i64 pq, .string px] 33) = v5 at *
    generalize w5.heap.size = cp at *
    have hz5b : b < v5.heap.size := K1.out.lt
    have hz5c : c < v5.heap.size := K2.out.lt
    have hz5p : cp < v5.heap.size := K3.out.lt
    go_cut [15, 16, 17, 18] from 71 to 81 (fun x y s t wc => ∃ bj bp, x = .pointer (some ⟨bj, 0, none⟩) ∧ y = .pointer (some ⟨bp, 0, none⟩) ∧ s = .bool pb ∧ t = .int .i64 pe ∧ Bk wc bj #[.bool nb', .int .i64 ns, .int .i64 nd, .int .i64 nq', .string nx, .int .i64 nn] 35 ∧ Bk wc bp #[.int .i64 ps', .int .i64 pd, .int .i64 pq, .string px] 33 ∧ v5.heap.size ≤ bj ∧ v5.heap.size ≤ bp ∧ Below v5.heap.size v5 wc)
    case first =>
      have SS : Hid (∀ V, Below v5.heap.size v5 V → V.cell? ⟨c, 0, none⟩ = some (.bool sb) ∧ V.cell? ⟨c, 1, none⟩ = some (.int .i64 ss) ∧ V.cell? ⟨c, 2, none⟩ = some (.int .i64 sd) ∧ V.cell? ⟨c, 3, none⟩ = some (.int .i64 sq) ∧ V.cell? ⟨c, 4, none⟩ = some (.string sx) ∧ V.cell? ⟨c, 5, none⟩ = some (.int .i64 sn) ∧ V.cell? ⟨g, o + j, none⟩ = some (.int .u64 (W : Int))) := show _ from fun V h => ⟨(h.cell (p := ⟨c, 0, none⟩) hz5c).trans (K2.out.cell 0), (h.cell (p := ⟨c, 1, none⟩) hz5c).trans (K2.out.cell 1), (h.cell (p := ⟨c, 2, none⟩) hz5c).trans (K2.out.cell 2), (h.cell (p := ⟨c, 3, none⟩) hz5c).trans (K2.out.cell 3), (h.cell (p := ⟨c, 4, none⟩) hz5c).trans (K2.out.cell 4), (h.cell (p := ⟨c, 5, none⟩) hz5c).trans (K2.out.cell 5), (h.cell (p := ⟨g, o + j, none⟩) (Nat.lt_trans hgb hz5b)).trans c1⟩
      refine wp_region_G (fun V : World => V.cell? ⟨c, 0, none⟩ = some (.bool sb) ∧ V.cell? ⟨c, 1, none⟩ = some (.int .i64 ss) ∧ V.cell? ⟨c, 2, none⟩ = some (.int .i64 sd) ∧ V.cell? ⟨c, 3, none⟩ = some (.int .i64 sq) ∧ V.cell? ⟨c, 4, none⟩ = some (.string sx) ∧ V.cell? ⟨c, 5, none⟩ = some (.int .i64 sn) ∧ V.cell? ⟨g, o + j, none⟩ = some (.int .u64 (W : Int))) 16 (by kernel_rfl) ?_
      have X : Hid (Below v5.heap.size v5 v5.drew) := (Below.refl _ _).drew
      generalize v5.drew = V0 at *
      have S0 : (fun V : World => V.cell? ⟨c, 0, none⟩ = some (.bool sb) ∧ V.cell? ⟨c, 1, none⟩ = some (.int .i64 ss) ∧ V.cell? ⟨c, 2, none⟩ = some (.int .i64 sd) ∧ V.cell? ⟨c, 3, none⟩ = some (.int .i64 sq) ∧ V.cell? ⟨c, 4, none⟩ = some (.string sx) ∧ V.cell? ⟨c, 5, none⟩ = some (.int .i64 sn) ∧ V.cell? ⟨g, o + j, none⟩ = some (.int .u64 (W : Int))) V0 := SS.out V0 X.out
      clear K1 K2 K3 B1 c1 HJ2
      refine wpAnyG_take [16] (some 72) (i := 0) (v := ?vh0) rfl rfl (by kernel_rfl) (by kernel_rfl) (by kernel_rfl) (by kernel_rfl) (fun _ _ _ h => h) (Or.inl ⟨by rfl, ?yh0⟩) S0 ?rh0
      case yh0 => (intro V hSV; obtain ⟨d0, d1, d2, d3, d4, d5, d6⟩ := hSV; go_simp; try with_reducible rfl)
      simp only [Act.put, List.setIfInBounds_toArray, List.set_cons_zero, List.set_cons_succ]
      refine wpAnyG_take [16] (some 73) (i := 1) (v := ?vh1) rfl rfl (by kernel_rfl) (by kernel_rfl) (by kernel_rfl) (by kernel_rfl) (fun _ _ _ h => h) (Or.inl ⟨by rfl, ?yh1⟩) S0 ?rh1
      case yh1 => (intro V hSV; obtain ⟨d0, d1, d2, d3, d4, d5, d6⟩ := hSV; go_simp; try with_reducible rfl)
      simp only [Act.put, List.setIfInBounds_toArray, List.set_cons_zero, List.set_cons_succ]
      refine wpAnyG_take [16] (some 74) (i := 2) (v := ?vh2) rfl rfl (by kernel_rfl) (by kernel_rfl) (by kernel_rfl) (by kernel_rfl) (fun _ _ _ h => h) (Or.inl ⟨by rfl, ?yh2⟩) S0 ?rh2
      case yh2 => (intro V hSV; obtain ⟨d0, d1, d2, d3, d4, d5, d6⟩ := hSV; go_simp; try with_reducible rfl)
      simp only [Act.put, List.setIfInBounds_toArray, List.set_cons_zero, List.set_cons_succ]
      refine wpAnyG_take [16] (some 75) (i := 3) (v := ?vh3) rfl rfl (by kernel_rfl) (by kernel_rfl) (by kernel_rfl) (by kernel_rfl) (fun _ _ _ h => h) (Or.inl ⟨by rfl, ?yh3⟩) S0 ?rh3
      case yh3 => (intro V hSV; obtain ⟨d0, d1, d2, d3, d4, d5, d6⟩ := hSV; go_simp; try with_reducible rfl)
      simp only [Act.put, List.setIfInBounds_toArray, List.set_cons_zero, List.set_cons_succ]
      refine wpAnyG_take [16] (some 76) (i := 4) (v := ?vh4) rfl rfl (by kernel_rfl) (by kernel_rfl) (by kernel_rfl) (by kernel_rfl) (fun _ _ _ h => h) (Or.inl ⟨by rfl, ?yh4⟩) S0 ?rh4
      case yh4 => (intro V hSV; obtain ⟨d0, d1, d2, d3, d4, d5, d6⟩ := hSV; go_simp; try with_reducible rfl)
      simp only [Act.put, List.setIfInBounds_toArray, List.set_cons_zero, List.set_cons_succ]
      clear S0
      refine wpAnyG_any [5, 11, 12] (by kernel_rfl) (by rfl) ?_
      intro i hi
      rcases mem3 hi with rfl | rfl | rfl
      · clear hi
        refine wpOpG (i := 5) rfl (fun K hK => ?_)
        go_simp
        with_reducible refine (HRR.out _).mono ?_
        rintro e VX ⟨rfl, hbx⟩
        have X2 : Hid (Below v5.heap.size v5 VX) := X.out.trans (hbx.mono X.out.size)
        refine hK.out _ _ (Or.inr (SS.out _ X2.out)) ?_
        clear hK K hbx X
        have X := X2
        clear X2
        generalize VX = V1 at *
        try simp only [Act.put, List.setIfInBounds_toArray, List.set_cons_zero, List.set_cons_succ]
        have S0 : (fun V : World => V.cell? ⟨c, 0, none⟩ = some (.bool sb) ∧ V.cell? ⟨c, 1, none⟩ = some (.int .i64 ss) ∧ V.cell? ⟨c, 2, none⟩ = some (.int .i64 sd) ∧ V.cell? ⟨c, 3, none⟩ = some (.int .i64 sq) ∧ V.cell? ⟨c, 4, none⟩ = some (.string sx) ∧ V.cell? ⟨c, 5, none⟩ = some (.int .i64 sn) ∧ V.cell? ⟨g, o + j, none⟩ = some (.int .u64 (W : Int))) V1 := SS.out _ X.out
        refine wpAnyG_take [16] (some 71) (i := 6) (v := ?vt16) rfl rfl (by kernel_rfl) (by kernel_rfl) (by kernel_rfl) (by kernel_rfl) (fun _ _ _ h => h) (Or.inl ⟨by rfl, ?yt16⟩) S0 ?rt16
        case yt16 => (intro V hSV; obtain ⟨d0, d1, d2, d3, d4, d5, d6⟩ := hSV; go_simp; try with_reducible rfl)
        simp only [Act.put, List.setIfInBounds_toArray, List.set_cons_zero, List.set_cons_succ]
        refine wpAnyG_take [16] (some 78) (i := 7) (v := ?vt17) rfl rfl (by kernel_rfl) (by kernel_rfl) (by kernel_rfl) (by kernel_rfl) (fun _ _ _ h => h) (Or.inl ⟨by rfl, ?yt17⟩) S0 ?rt17
        case yt17 => (intro V hSV; obtain ⟨d0, d1, d2, d3, d4, d5, d6⟩ := hSV; go_simp; try with_reducible rfl)
        simp only [Act.put, List.setIfInBounds_toArray, List.set_cons_zero, List.set_cons_succ]
        refine wpAnyG_take [16] (some 79) (i := 8) (v := ?vt18) rfl rfl (by kernel_rfl) (by kernel_rfl) (by kernel_rfl) (by kernel_rfl) (fun _ _ _ h => h) (Or.inl ⟨by rfl, ?yt18⟩) S0 ?rt18
        case yt18 => (intro V hSV; obtain ⟨d0, d1, d2, d3, d4, d5, d6⟩ := hSV; go_simp; try with_reducible rfl)
        simp only [Act.put, List.setIfInBounds_toArray, List.set_cons_zero, List.set_cons_succ]
        refine wpAnyG_take [16] (some 80) (i := 9) (v := ?vt19) rfl rfl (by kernel_rfl) (by kernel_rfl) (by kernel_rfl) (by kernel_rfl) (fun _ _ _ h => h) (Or.inl ⟨by rfl, ?yt19⟩) S0 ?rt19
        case yt19 => (intro V hSV; obtain ⟨d0, d1, d2, d3, d4, d5, d6⟩ := hSV; go_simp; try with_reducible rfl)
        simp only [Act.put, List.setIfInBounds_toArray, List.set_cons_zero, List.set_cons_succ]
        refine wpAnyG_take [16] (some 81) (i := 10) (v := ?vt110) rfl rfl (by kernel_rfl) (by kernel_rfl) (by kernel_rfl) (by kernel_rfl) (fun _ _ _ h => h) (Or.inl ⟨by rfl, ?yt110⟩) S0 ?rt110
        case yt110 => (intro V hSV; obtain ⟨d0, d1, d2, d3, d4, d5, d6⟩ := hSV; go_simp; try with_reducible rfl)
        simp only [Act.put, List.setIfInBounds_toArray, List.set_cons_zero, List.set_cons_succ]
        clear S0
        refine wpAnyG_any [11, 12] (by kernel_rfl) (by rfl) ?_
        intro i hi
        rcases mem2 hi with rfl | rfl
        · clear hi
          refine wpOpG (i := 11) rfl (fun K hK => ?_)
          go_simp
          have X2 : Hid (Below v5.heap.size v5 (V1.alloc (.cells #[.bool false, .int .i64 0, .int .i64 0, .int .i64 0, .string ⟨#[]⟩, .int .i64 0] 35))) := X.out.alloc X.out.size _
          have KJ : Hid (Bk (V1.alloc (.cells #[.bool false, .int .i64 0, .int .i64 0, .int .i64 0, .string ⟨#[]⟩, .int .i64 0] 35)) V1.heap.size #[.bool false, .int .i64 0, .int .i64 0, .int .i64 0, .string ⟨#[]⟩, .int .i64 0] 35) := Bk.new _ _ _
          have lj : v5.heap.size ≤ V1.heap.size := X.out.size
          refine hK.out _ _ (Or.inr (SS.out _ X2.out)) ?_
          clear hK K X
          have X := X2
          clear X2
          generalize V1.alloc (.cells #[.bool false, .int .i64 0, .int .i64 0, .int .i64 0, .string ⟨#[]⟩, .int .i64 0] 35) = V2 at *
          generalize V1.heap.size = bj at *
          try simp only [Act.put, List.setIfInBounds_toArray, List.set_cons_zero, List.set_cons_succ]
          refine wpAnyG_one (i := 12) (by kernel_rfl) rfl (fun K hK => ?_)
          go_simp
          have X2 : Hid (Below v5.heap.size v5 (V2.alloc (.cells #[.int .i64 0, .int .i64 0, .int .i64 0, .string ⟨#[]⟩] 33))) := X.out.alloc X.out.size _
          have KP : Hid (Bk (V2.alloc (.cells #[.int .i64 0, .int .i64 0, .int .i64 0, .string ⟨#[]⟩] 33)) V2.heap.size #[.int .i64 0, .int .i64 0, .int .i64 0, .string ⟨#[]⟩] 33) := Bk.new _ _ _
          have lp : v5.heap.size ≤ V2.heap.size := X.out.size
          have KJ2 : Hid (Bk (V2.alloc (.cells #[.int .i64 0, .int .i64 0, .int .i64 0, .string ⟨#[]⟩] 33)) bj #[.bool false, .int .i64 0, .int .i64 0, .int .i64 0, .string ⟨#[]⟩, .int .i64 0] 35) := KJ.out.alloc _
          have hne2 : ¬ bj = V2.heap.size := by have := KJ.out.lt; omega
          refine hK.out _ _ (Or.inr (SS.out _ X2.out)) ?_
          clear hK K X KJ
          have X := X2
          clear X2
          have KJ := KJ2
          clear KJ2
          generalize V2.alloc (.cells #[.int .i64 0, .int .i64 0, .int .i64 0, .string ⟨#[]⟩] 33) = V3 at *
          generalize V2.heap.size = bp at *
          try simp only [Act.put, List.setIfInBounds_toArray, List.set_cons_zero, List.set_cons_succ]
          have A0 : V3.cell? ⟨bj, 0, none⟩ = some (.bool false) := KJ.out.cell 0
          have A1 : V3.cell? ⟨bj, 1, none⟩ = some (.int .i64 0) := KJ.out.cell 1
          have A2 : V3.cell? ⟨bj, 2, none⟩ = some (.int .i64 0) := KJ.out.cell 2
          have A3 : V3.cell? ⟨bj, 3, none⟩ = some (.int .i64 0) := KJ.out.cell 3
          have A4 : V3.cell? ⟨bj, 4, none⟩ = some (.string ⟨#[]⟩) := KJ.out.cell 4
          have A5 : V3.cell? ⟨bj, 5, none⟩ = some (.int .i64 0) := KJ.out.cell 5
          have Z0 : V3.frozen? ⟨bj, 0, none⟩ = false := KJ.out.free 0
          have Z1 : V3.frozen? ⟨bj, 1, none⟩ = false := KJ.out.free 1
          have Z2 : V3.frozen? ⟨bj, 2, none⟩ = false := KJ.out.free 2
          have Z3 : V3.frozen? ⟨bj, 3, none⟩ = false := KJ.out.free 3
          have Z4 : V3.frozen? ⟨bj, 4, none⟩ = false := KJ.out.free 4
          have Z5 : V3.frozen? ⟨bj, 5, none⟩ = false := KJ.out.free 5
          refine wpAnyG_one (i := 13) (by kernel_rfl) rfl (fun K hK => ?_)
          go_simp
          have YJ : Hid (Bk ((((((V3.setCell ⟨bj, 0, none⟩ (.bool nb')).setCell ⟨bj, 1, none⟩ (.int .i64 ns)).setCell ⟨bj, 2, none⟩ (.int .i64 nd)).setCell ⟨bj, 3, none⟩ (.int .i64 nq')).setCell ⟨bj, 4, none⟩ (.string nx)).setCell ⟨bj, 5, none⟩ (.int .i64 nn)) bj #[.bool nb', .int .i64 ns, .int .i64 nd, .int .i64 nq', .string nx, .int .i64 nn] 35) := six_at (x0 := .bool nb') (x1 := .int .i64 ns) (x2 := .int .i64 nd) (x3 := .int .i64 nq') (x4 := .string nx) (x5 := .int .i64 nn) KJ.out
          have YP : Hid (Bk ((((((V3.setCell ⟨bj, 0, none⟩ (.bool nb')).setCell ⟨bj, 1, none⟩ (.int .i64 ns)).setCell ⟨bj, 2, none⟩ (.int .i64 nd)).setCell ⟨bj, 3, none⟩ (.int .i64 nq')).setCell ⟨bj, 4, none⟩ (.string nx)).setCell ⟨bj, 5, none⟩ (.int .i64 nn)) bp #[.int .i64 0, .int .i64 0, .int .i64 0, .string ⟨#[]⟩] 33) := six_far (x0 := .bool nb') (x1 := .int .i64 ns) (x2 := .int .i64 nd) (x3 := .int .i64 nq') (x4 := .string nx) (x5 := .int .i64 nn) KP.out (fun e => hne2 e.symm)
          have YB : Hid (Below v5.heap.size v5 ((((((V3.setCell ⟨bj, 0, none⟩ (.bool nb')).setCell ⟨bj, 1, none⟩ (.int .i64 ns)).setCell ⟨bj, 2, none⟩ (.int .i64 nd)).setCell ⟨bj, 3, none⟩ (.int .i64 nq')).setCell ⟨bj, 4, none⟩ (.string nx)).setCell ⟨bj, 5, none⟩ (.int .i64 nn))) := below_6 X.out lj (.bool nb') (.int .i64 ns) (.int .i64 nd) (.int .i64 nq') (.string nx) (.int .i64 nn)
          refine hK.out _ _ (Or.inr (SS.out _ YB.out)) ?_
          clear hK K A0 A1 A2 A3 A4 A5 Z0 Z1 Z2 Z3 Z4 Z5 X KJ KP
          generalize (((((V3.setCell ⟨bj, 0, none⟩ (.bool nb')).setCell ⟨bj, 1, none⟩ (.int .i64 ns)).setCell ⟨bj, 2, none⟩ (.int .i64 nd)).setCell ⟨bj, 3, none⟩ (.int .i64 nq')).setCell ⟨bj, 4, none⟩ (.string nx)).setCell ⟨bj, 5, none⟩ (.int .i64 nn) = V4 at *
          have A0 : V4.cell? ⟨bp, 0, none⟩ = some (.int .i64 0) := YP.out.cell 0
          have A1 : V4.cell? ⟨bp, 1, none⟩ = some (.int .i64 0) := YP.out.cell 1
          have A2 : V4.cell? ⟨bp, 2, none⟩ = some (.int .i64 0) := YP.out.cell 2
          have A3 : V4.cell? ⟨bp, 3, none⟩ = some (.string ⟨#[]⟩) := YP.out.cell 3
          have Z0 : V4.frozen? ⟨bp, 0, none⟩ = false := YP.out.free 0
          have Z1 : V4.frozen? ⟨bp, 1, none⟩ = false := YP.out.free 1
          have Z2 : V4.frozen? ⟨bp, 2, none⟩ = false := YP.out.free 2
          have Z3 : V4.frozen? ⟨bp, 3, none⟩ = false := YP.out.free 3
          refine wpAnyG_one (i := 14) (by kernel_rfl) rfl (fun K hK => ?_)
          go_simp
          have WJ : Hid (Bk ((((V4.setCell ⟨bp, 0, none⟩ (.int .i64 ps')).setCell ⟨bp, 1, none⟩ (.int .i64 pd)).setCell ⟨bp, 2, none⟩ (.int .i64 pq)).setCell ⟨bp, 3, none⟩ (.string px)) bj #[.bool nb', .int .i64 ns, .int .i64 nd, .int .i64 nq', .string nx, .int .i64 nn] 35) := four_far (x0 := (.int .i64 ps')) (x1 := (.int .i64 pd)) (x2 := (.int .i64 pq)) (x3 := (.string px)) YJ.out hne2
          have WP : Hid (Bk ((((V4.setCell ⟨bp, 0, none⟩ (.int .i64 ps')).setCell ⟨bp, 1, none⟩ (.int .i64 pd)).setCell ⟨bp, 2, none⟩ (.int .i64 pq)).setCell ⟨bp, 3, none⟩ (.string px)) bp #[.int .i64 ps', .int .i64 pd, .int .i64 pq, .string px] 33) := fourp_at (x0 := (.int .i64 ps')) (x1 := (.int .i64 pd)) (x2 := (.int .i64 pq)) (x3 := (.string px)) YP.out
          have WB : Hid (Below v5.heap.size v5 ((((V4.setCell ⟨bp, 0, none⟩ (.int .i64 ps')).setCell ⟨bp, 1, none⟩ (.int .i64 pd)).setCell ⟨bp, 2, none⟩ (.int .i64 pq)).setCell ⟨bp, 3, none⟩ (.string px))) := below_four YB.out lp (.int .i64 ps') (.int .i64 pd) (.int .i64 pq) (.string px)
          refine hK.out _ _ (Or.inr (SS.out _ WB.out)) ?_
          clear hK K A0 A1 A2 A3 Z0 Z1 Z2 Z3 YJ YP YB
          generalize (((V4.setCell ⟨bp, 0, none⟩ (.int .i64 ps')).setCell ⟨bp, 1, none⟩ (.int .i64 pd)).setCell ⟨bp, 2, none⟩ (.int .i64 pq)).setCell ⟨bp, 3, none⟩ (.string px) = V5 at *
          refine wpAnyG_one (i := 15) (by kernel_rfl) rfl (fun K hK => ?_)
          go_simp
          refine hK.out _ _ (Or.inr (SS.out _ WB.out)) ?_
          clear hK K
          refine wpAnyG_one (i := 16) (by kernel_rfl) rfl (fun K hK => ?_)
          go_simp
          refine hK.out _ _ (Or.inl (by kernel_rfl)) ?_
          clear hK K
          refine wpAnyG_done (by kernel_rfl) ?_ _
          go_wp2
          go_meet
          exact ⟨bj, bp, rfl, rfl, rfl, rfl, WJ.out, WP.out, lj, lp, WB.out⟩
        · clear hi
          refine wpOpG (i := 12) rfl (fun K hK => ?_)
          go_simp
          have X2 : Hid (Below v5.heap.size v5 (V1.alloc (.cells #[.int .i64 0, .int .i64 0, .int .i64 0, .string ⟨#[]⟩] 33))) := X.out.alloc X.out.size _
          have KP : Hid (Bk (V1.alloc (.cells #[.int .i64 0, .int .i64 0, .int .i64 0, .string ⟨#[]⟩] 33)) V1.heap.size #[.int .i64 0, .int .i64 0, .int .i64 0, .string ⟨#[]⟩] 33) := Bk.new _ _ _
          have lp : v5.heap.size ≤ V1.heap.size := X.out.size
          refine hK.out _ _ (Or.inr (SS.out _ X2.out)) ?_
          clear hK K X
          have X := X2
          clear X2
          generalize V1.alloc (.cells #[.int .i64 0, .int .i64 0, .int .i64 0, .string ⟨#[]⟩] 33) = V2 at *
          generalize V1.heap.size = bp at *
          try simp only [Act.put, List.setIfInBounds_toArray, List.set_cons_zero, List.set_cons_succ]
          refine wpAnyG_one (i := 11) (by kernel_rfl) rfl (fun K hK => ?_)
          go_simp
          have X2 : Hid (Below v5.heap.size v5 (V2.alloc (.cells #[.bool false, .int .i64 0, .int .i64 0, .int .i64 0, .string ⟨#[]⟩, .int .i64 0] 35))) := X.out.alloc X.out.size _
          have KJ : Hid (Bk (V2.alloc (.cells #[.bool false, .int .i64 0, .int .i64 0, .int .i64 0, .string ⟨#[]⟩, .int .i64 0] 35)) V2.heap.size #[.bool false, .int .i64 0, .int .i64 0, .int .i64 0, .string ⟨#[]⟩, .int .i64 0] 35) := Bk.new _ _ _
          have lj : v5.heap.size ≤ V2.heap.size := X.out.size
          have KP2 : Hid (Bk (V2.alloc (.cells #[.bool false, .int .i64 0, .int .i64 0, .int .i64 0, .string ⟨#[]⟩, .int .i64 0] 35)) bp #[.int .i64 0, .int .i64 0, .int .i64 0, .string ⟨#[]⟩] 33) := KP.out.alloc _
          have hne2 : ¬ V2.heap.size = bp := by have := KP.out.lt; omega
          refine hK.out _ _ (Or.inr (SS.out _ X2.out)) ?_
          clear hK K X KP
          have X := X2
          clear X2
          have KP := KP2
          clear KP2
          generalize V2.alloc (.cells #[.bool false, .int .i64 0, .int .i64 0, .int .i64 0, .string ⟨#[]⟩, .int .i64 0] 35) = V3 at *
          generalize V2.heap.size = bj at *
          try simp only [Act.put, List.setIfInBounds_toArray, List.set_cons_zero, List.set_cons_succ]
          have A0 : V3.cell? ⟨bj, 0, none⟩ = some (.bool false) := KJ.out.cell 0
          have A1 : V3.cell? ⟨bj, 1, none⟩ = some (.int .i64 0) := KJ.out.cell 1
          have A2 : V3.cell? ⟨bj, 2, none⟩ = some (.int .i64 0) := KJ.out.cell 2
          have A3 : V3.cell? ⟨bj, 3, none⟩ = some (.int .i64 0) := KJ.out.cell 3
          have A4 : V3.cell? ⟨bj, 4, none⟩ = some (.string ⟨#[]⟩) := KJ.out.cell 4
          have A5 : V3.cell? ⟨bj, 5, none⟩ = some (.int .i64 0) := KJ.out.cell 5
          have Z0 : V3.frozen? ⟨bj, 0, none⟩ = false := KJ.out.free 0
          have Z1 : V3.frozen? ⟨bj, 1, none⟩ = false := KJ.out.free 1
          have Z2 : V3.frozen? ⟨bj, 2, none⟩ = false := KJ.out.free 2
          have Z3 : V3.frozen? ⟨bj, 3, none⟩ = false := KJ.out.free 3
          have Z4 : V3.frozen? ⟨bj, 4, none⟩ = false := KJ.out.free 4
          have Z5 : V3.frozen? ⟨bj, 5, none⟩ = false := KJ.out.free 5
          refine wpAnyG_one (i := 13) (by kernel_rfl) rfl (fun K hK => ?_)
          go_simp
          have YJ : Hid (Bk ((((((V3.setCell ⟨bj, 0, none⟩ (.bool nb')).setCell ⟨bj, 1, none⟩ (.int .i64 ns)).setCell ⟨bj, 2, none⟩ (.int .i64 nd)).setCell ⟨bj, 3, none⟩ (.int .i64 nq')).setCell ⟨bj, 4, none⟩ (.string nx)).setCell ⟨bj, 5, none⟩ (.int .i64 nn)) bj #[.bool nb', .int .i64 ns, .int .i64 nd, .int .i64 nq', .string nx, .int .i64 nn] 35) := six_at (x0 := .bool nb') (x1 := .int .i64 ns) (x2 := .int .i64 nd) (x3 := .int .i64 nq') (x4 := .string nx) (x5 := .int .i64 nn) KJ.out
          have YP : Hid (Bk ((((((V3.setCell ⟨bj, 0, none⟩ (.bool nb')).setCell ⟨bj, 1, none⟩ (.int .i64 ns)).setCell ⟨bj, 2, none⟩ (.int .i64 nd)).setCell ⟨bj, 3, none⟩ (.int .i64 nq')).setCell ⟨bj, 4, none⟩ (.string nx)).setCell ⟨bj, 5, none⟩ (.int .i64 nn)) bp #[.int .i64 0, .int .i64 0, .int .i64 0, .string ⟨#[]⟩] 33) := six_far (x0 := .bool nb') (x1 := .int .i64 ns) (x2 := .int .i64 nd) (x3 := .int .i64 nq') (x4 := .string nx) (x5 := .int .i64 nn) KP.out (fun e => hne2 e.symm)
          have YB : Hid (Below v5.heap.size v5 ((((((V3.setCell ⟨bj, 0, none⟩ (.bool nb')).setCell ⟨bj, 1, none⟩ (.int .i64 ns)).setCell ⟨bj, 2, none⟩ (.int .i64 nd)).setCell ⟨bj, 3, none⟩ (.int .i64 nq')).setCell ⟨bj, 4, none⟩ (.string nx)).setCell ⟨bj, 5, none⟩ (.int .i64 nn))) := below_6 X.out lj (.bool nb') (.int .i64 ns) (.int .i64 nd) (.int .i64 nq') (.string nx) (.int .i64 nn)
          refine hK.out _ _ (Or.inr (SS.out _ YB.out)) ?_
          clear hK K A0 A1 A2 A3 A4 A5 Z0 Z1 Z2 Z3 Z4 Z5 X KJ KP
          generalize (((((V3.setCell ⟨bj, 0, none⟩ (.bool nb')).setCell ⟨bj, 1, none⟩ (.int .i64 ns)).setCell ⟨bj, 2, none⟩ (.int .i64 nd)).setCell ⟨bj, 3, none⟩ (.int .i64 nq')).setCell ⟨bj, 4, none⟩ (.string nx)).setCell ⟨bj, 5, none⟩ (.int .i64 nn) = V4 at *
          have A0 : V4.cell? ⟨bp, 0, none⟩ = some (.int .i64 0) := YP.out.cell 0
          have A1 : V4.cell? ⟨bp, 1, none⟩ = some (.int .i64 0) := YP.out.cell 1
          have A2 : V4.cell? ⟨bp, 2, none⟩ = some (.int .i64 0) := YP.out.cell 2
          have A3 : V4.cell? ⟨bp, 3, none⟩ = some (.string ⟨#[]⟩) := YP.out.cell 3
          have Z0 : V4.frozen? ⟨bp, 0, none⟩ = false := YP.out.free 0
          have Z1 : V4.frozen? ⟨bp, 1, none⟩ = false := YP.out.free 1
          have Z2 : V4.frozen? ⟨bp, 2, none⟩ = false := YP.out.free 2
          have Z3 : V4.frozen? ⟨bp, 3, none⟩ = false := YP.out.free 3
          refine wpAnyG_one (i := 14) (by kernel_rfl) rfl (fun K hK => ?_)
          go_simp
          have WJ : Hid (Bk ((((V4.setCell ⟨bp, 0, none⟩ (.int .i64 ps')).setCell ⟨bp, 1, none⟩ (.int .i64 pd)).setCell ⟨bp, 2, none⟩ (.int .i64 pq)).setCell ⟨bp, 3, none⟩ (.string px)) bj #[.bool nb', .int .i64 ns, .int .i64 nd, .int .i64 nq', .string nx, .int .i64 nn] 35) := four_far (x0 := (.int .i64 ps')) (x1 := (.int .i64 pd)) (x2 := (.int .i64 pq)) (x3 := (.string px)) YJ.out hne2
          have WP : Hid (Bk ((((V4.setCell ⟨bp, 0, none⟩ (.int .i64 ps')).setCell ⟨bp, 1, none⟩ (.int .i64 pd)).setCell ⟨bp, 2, none⟩ (.int .i64 pq)).setCell ⟨bp, 3, none⟩ (.string px)) bp #[.int .i64 ps', .int .i64 pd, .int .i64 pq, .string px] 33) := fourp_at (x0 := (.int .i64 ps')) (x1 := (.int .i64 pd)) (x2 := (.int .i64 pq)) (x3 := (.string px)) YP.out
          have WB : Hid (Below v5.heap.size v5 ((((V4.setCell ⟨bp, 0, none⟩ (.int .i64 ps')).setCell ⟨bp, 1, none⟩ (.int .i64 pd)).setCell ⟨bp, 2, none⟩ (.int .i64 pq)).setCell ⟨bp, 3, none⟩ (.string px))) := below_four YB.out lp (.int .i64 ps') (.int .i64 pd) (.int .i64 pq) (.string px)
          refine hK.out _ _ (Or.inr (SS.out _ WB.out)) ?_
          clear hK K A0 A1 A2 A3 Z0 Z1 Z2 Z3 YJ YP YB
          generalize (((V4.setCell ⟨bp, 0, none⟩ (.int .i64 ps')).setCell ⟨bp, 1, none⟩ (.int .i64 pd)).setCell ⟨bp, 2, none⟩ (.int .i64 pq)).setCell ⟨bp, 3, none⟩ (.string px) = V5 at *
          refine wpAnyG_one (i := 15) (by kernel_rfl) rfl (fun K hK => ?_)
          go_simp
          refine hK.out _ _ (Or.inr (SS.out _ WB.out)) ?_
          clear hK K
          refine wpAnyG_one (i := 16) (by kernel_rfl) rfl (fun K hK => ?_)
          go_simp
          refine hK.out _ _ (Or.inl (by kernel_rfl)) ?_
          clear hK K
          refine wpAnyG_done (by kernel_rfl) ?_ _
          go_wp2
          go_meet
          exact ⟨bj, bp, rfl, rfl, rfl, rfl, WJ.out, WP.out, lj, lp, WB.out⟩
      · clear hi
        refine wpOpG (i := 11) rfl (fun K hK => ?_)
        go_simp
        have X2 : Hid (Below v5.heap.size v5 (V0.alloc (.cells #[.bool false, .int .i64 0, .int .i64 0, .int .i64 0, .string ⟨#[]⟩, .int .i64 0] 35))) := X.out.alloc X.out.size _
        have KJ : Hid (Bk (V0.alloc (.cells #[.bool false, .int .i64 0, .int .i64 0, .int .i64 0, .string ⟨#[]⟩, .int .i64 0] 35)) V0.heap.size #[.bool false, .int .i64 0, .int .i64 0, .int .i64 0, .string ⟨#[]⟩, .int .i64 0] 35) := Bk.new _ _ _
        have lj : v5.heap.size ≤ V0.heap.size := X.out.size
        refine hK.out _ _ (Or.inr (SS.out _ X2.out)) ?_
        clear hK K X
        have X := X2
        clear X2
        generalize V0.alloc (.cells #[.bool false, .int .i64 0, .int .i64 0, .int .i64 0, .string ⟨#[]⟩, .int .i64 0] 35) = V1 at *
        generalize V0.heap.size = bj at *
        try simp only [Act.put, List.setIfInBounds_toArray, List.set_cons_zero, List.set_cons_succ]
        refine wpAnyG_any [5, 12] (by kernel_rfl) (by rfl) ?_
        intro i hi
        rcases mem2 hi with rfl | rfl
        · clear hi
          refine wpOpG (i := 5) rfl (fun K hK => ?_)
          go_simp
          with_reducible refine (HRR.out _).mono ?_
          rintro e VX ⟨rfl, hbx⟩
          have X2 : Hid (Below v5.heap.size v5 VX) := X.out.trans (hbx.mono X.out.size)
          have KJ2 : Hid (Bk VX bj #[.bool false, .int .i64 0, .int .i64 0, .int .i64 0, .string ⟨#[]⟩, .int .i64 0] 35) := KJ.out.next hbx
          refine hK.out _ _ (Or.inr (SS.out _ X2.out)) ?_
          clear hK K hbx X KJ
          have X := X2
          clear X2
          have KJ := KJ2
          clear KJ2
          generalize VX = V2 at *
          try simp only [Act.put, List.setIfInBounds_toArray, List.set_cons_zero, List.set_cons_succ]
          have S0 : (fun V : World => V.cell? ⟨c, 0, none⟩ = some (.bool sb) ∧ V.cell? ⟨c, 1, none⟩ = some (.int .i64 ss) ∧ V.cell? ⟨c, 2, none⟩ = some (.int .i64 sd) ∧ V.cell? ⟨c, 3, none⟩ = some (.int .i64 sq) ∧ V.cell? ⟨c, 4, none⟩ = some (.string sx) ∧ V.cell? ⟨c, 5, none⟩ = some (.int .i64 sn) ∧ V.cell? ⟨g, o + j, none⟩ = some (.int .u64 (W : Int))) V2 := SS.out _ X.out
          refine wpAnyG_take [16] (some 71) (i := 6) (v := ?vt76) rfl rfl (by kernel_rfl) (by kernel_rfl) (by kernel_rfl) (by kernel_rfl) (fun _ _ _ h => h) (Or.inl ⟨by rfl, ?yt76⟩) S0 ?rt76
          case yt76 => (intro V hSV; obtain ⟨d0, d1, d2, d3, d4, d5, d6⟩ := hSV; go_simp; try with_reducible rfl)
          simp only [Act.put, List.setIfInBounds_toArray, List.set_cons_zero, List.set_cons_succ]
          refine wpAnyG_take [16] (some 78) (i := 7) (v := ?vt77) rfl rfl (by kernel_rfl) (by kernel_rfl) (by kernel_rfl) (by kernel_rfl) (fun _ _ _ h => h) (Or.inl ⟨by rfl, ?yt77⟩) S0 ?rt77
          case yt77 => (intro V hSV; obtain ⟨d0, d1, d2, d3, d4, d5, d6⟩ := hSV; go_simp; try with_reducible rfl)
          simp only [Act.put, List.setIfInBounds_toArray, List.set_cons_zero, List.set_cons_succ]
          refine wpAnyG_take [16] (some 79) (i := 8) (v := ?vt78) rfl rfl (by kernel_rfl) (by kernel_rfl) (by kernel_rfl) (by kernel_rfl) (fun _ _ _ h => h) (Or.inl ⟨by rfl, ?yt78⟩) S0 ?rt78
          case yt78 => (intro V hSV; obtain ⟨d0, d1, d2, d3, d4, d5, d6⟩ := hSV; go_simp; try with_reducible rfl)
          simp only [Act.put, List.setIfInBounds_toArray, List.set_cons_zero, List.set_cons_succ]
          refine wpAnyG_take [16] (some 80) (i := 9) (v := ?vt79) rfl rfl (by kernel_rfl) (by kernel_rfl) (by kernel_rfl) (by kernel_rfl) (fun _ _ _ h => h) (Or.inl ⟨by rfl, ?yt79⟩) S0 ?rt79
          case yt79 => (intro V hSV; obtain ⟨d0, d1, d2, d3, d4, d5, d6⟩ := hSV; go_simp; try with_reducible rfl)
          simp only [Act.put, List.setIfInBounds_toArray, List.set_cons_zero, List.set_cons_succ]
          refine wpAnyG_take [16] (some 81) (i := 10) (v := ?vt710) rfl rfl (by kernel_rfl) (by kernel_rfl) (by kernel_rfl) (by kernel_rfl) (fun _ _ _ h => h) (Or.inl ⟨by rfl, ?yt710⟩) S0 ?rt710
          case yt710 => (intro V hSV; obtain ⟨d0, d1, d2, d3, d4, d5, d6⟩ := hSV; go_simp; try with_reducible rfl)
          simp only [Act.put, List.setIfInBounds_toArray, List.set_cons_zero, List.set_cons_succ]
          clear S0
          refine wpAnyG_one (i := 12) (by kernel_rfl) rfl (fun K hK => ?_)
          go_simp
          have X2 : Hid (Below v5.heap.size v5 (V2.alloc (.cells #[.int .i64 0, .int .i64 0, .int .i64 0, .string ⟨#[]⟩] 33))) := X.out.alloc X.out.size _
          have KP : Hid (Bk (V2.alloc (.cells #[.int .i64 0, .int .i64 0, .int .i64 0, .string ⟨#[]⟩] 33)) V2.heap.size #[.int .i64 0, .int .i64 0, .int .i64 0, .string ⟨#[]⟩] 33) := Bk.new _ _ _
          have lp : v5.heap.size ≤ V2.heap.size := X.out.size
          have KJ2 : Hid (Bk (V2.alloc (.cells #[.int .i64 0, .int .i64 0, .int .i64 0, .string ⟨#[]⟩] 33)) bj #[.bool false, .int .i64 0, .int .i64 0, .int .i64 0, .string ⟨#[]⟩, .int .i64 0] 35) := KJ.out.alloc _
          have hne2 : ¬ bj = V2.heap.size := by have := KJ.out.lt; omega
          refine hK.out _ _ (Or.inr (SS.out _ X2.out)) ?_
          clear hK K X KJ
          have X := X2
          clear X2
          have KJ := KJ2
          clear KJ2
          generalize V2.alloc (.cells #[.int .i64 0, .int .i64 0, .int .i64 0, .string ⟨#[]⟩] 33) = V3 at *
          generalize V2.heap.size = bp at *
          try simp only [Act.put, List.setIfInBounds_toArray, List.set_cons_zero, List.set_cons_succ]
          have A0 : V3.cell? ⟨bj, 0, none⟩ = some (.bool false) := KJ.out.cell 0
          have A1 : V3.cell? ⟨bj, 1, none⟩ = some (.int .i64 0) := KJ.out.cell 1
          have A2 : V3.cell? ⟨bj, 2, none⟩ = some (.int .i64 0) := KJ.out.cell 2
          have A3 : V3.cell? ⟨bj, 3, none⟩ = some (.int .i64 0) := KJ.out.cell 3
          have A4 : V3.cell? ⟨bj, 4, none⟩ = some (.string ⟨#[]⟩) := KJ.out.cell 4
          have A5 : V3.cell? ⟨bj, 5, none⟩ = some (.int .i64 0) := KJ.out.cell 5
          have Z0 : V3.frozen? ⟨bj, 0, none⟩ = false := KJ.out.free 0
          have Z1 : V3.frozen? ⟨bj, 1, none⟩ = false := KJ.out.free 1
          have Z2 : V3.frozen? ⟨bj, 2, none⟩ = false := KJ.out.free 2
          have Z3 : V3.frozen? ⟨bj, 3, none⟩ = false := KJ.out.free 3
          have Z4 : V3.frozen? ⟨bj, 4, none⟩ = false := KJ.out.free 4
          have Z5 : V3.frozen? ⟨bj, 5, none⟩ = false := KJ.out.free 5
          refine wpAnyG_one (i := 13) (by kernel_rfl) rfl (fun K hK => ?_)
          go_simp
          have YJ : Hid (Bk ((((((V3.setCell ⟨bj, 0, none⟩ (.bool nb')).setCell ⟨bj, 1, none⟩ (.int .i64 ns)).setCell ⟨bj, 2, none⟩ (.int .i64 nd)).setCell ⟨bj, 3, none⟩ (.int .i64 nq')).setCell ⟨bj, 4, none⟩ (.string nx)).setCell ⟨bj, 5, none⟩ (.int .i64 nn)) bj #[.bool nb', .int .i64 ns, .int .i64 nd, .int .i64 nq', .string nx, .int .i64 nn] 35) := six_at (x0 := .bool nb') (x1 := .int .i64 ns) (x2 := .int .i64 nd) (x3 := .int .i64 nq') (x4 := .string nx) (x5 := .int .i64 nn) KJ.out
          have YP : Hid (Bk ((((((V3.setCell ⟨bj, 0, none⟩ (.bool nb')).setCell ⟨bj, 1, none⟩ (.int .i64 ns)).setCell ⟨bj, 2, none⟩ (.int .i64 nd)).setCell ⟨bj, 3, none⟩ (.int .i64 nq')).setCell ⟨bj, 4, none⟩ (.string nx)).setCell ⟨bj, 5, none⟩ (.int .i64 nn)) bp #[.int .i64 0, .int .i64 0, .int .i64 0, .string ⟨#[]⟩] 33) := six_far (x0 := .bool nb') (x1 := .int .i64 ns) (x2 := .int .i64 nd) (x3 := .int .i64 nq') (x4 := .string nx) (x5 := .int .i64 nn) KP.out (fun e => hne2 e.symm)
          have YB : Hid (Below v5.heap.size v5 ((((((V3.setCell ⟨bj, 0, none⟩ (.bool nb')).setCell ⟨bj, 1, none⟩ (.int .i64 ns)).setCell ⟨bj, 2, none⟩ (.int .i64 nd)).setCell ⟨bj, 3, none⟩ (.int .i64 nq')).setCell ⟨bj, 4, none⟩ (.string nx)).setCell ⟨bj, 5, none⟩ (.int .i64 nn))) := below_6 X.out lj (.bool nb') (.int .i64 ns) (.int .i64 nd) (.int .i64 nq') (.string nx) (.int .i64 nn)
          refine hK.out _ _ (Or.inr (SS.out _ YB.out)) ?_
          clear hK K A0 A1 A2 A3 A4 A5 Z0 Z1 Z2 Z3 Z4 Z5 X KJ KP
          generalize (((((V3.setCell ⟨bj, 0, none⟩ (.bool nb')).setCell ⟨bj, 1, none⟩ (.int .i64 ns)).setCell ⟨bj, 2, none⟩ (.int .i64 nd)).setCell ⟨bj, 3, none⟩ (.int .i64 nq')).setCell ⟨bj, 4, none⟩ (.string nx)).setCell ⟨bj, 5, none⟩ (.int .i64 nn) = V4 at *
          have A0 : V4.cell? ⟨bp, 0, none⟩ = some (.int .i64 0) := YP.out.cell 0
          have A1 : V4.cell? ⟨bp, 1, none⟩ = some (.int .i64 0) := YP.out.cell 1
          have A2 : V4.cell? ⟨bp, 2, none⟩ = some (.int .i64 0) := YP.out.cell 2
          have A3 : V4.cell? ⟨bp, 3, none⟩ = some (.string ⟨#[]⟩) := YP.out.cell 3
          have Z0 : V4.frozen? ⟨bp, 0, none⟩ = false := YP.out.free 0
          have Z1 : V4.frozen? ⟨bp, 1, none⟩ = false := YP.out.free 1
          have Z2 : V4.frozen? ⟨bp, 2, none⟩ = false := YP.out.free 2
          have Z3 : V4.frozen? ⟨bp, 3, none⟩ = false := YP.out.free 3
          refine wpAnyG_one (i := 14) (by kernel_rfl) rfl (fun K hK => ?_)
          go_simp
          have WJ : Hid (Bk ((((V4.setCell ⟨bp, 0, none⟩ (.int .i64 ps')).setCell ⟨bp, 1, none⟩ (.int .i64 pd)).setCell ⟨bp, 2, none⟩ (.int .i64 pq)).setCell ⟨bp, 3, none⟩ (.string px)) bj #[.bool nb', .int .i64 ns, .int .i64 nd, .int .i64 nq', .string nx, .int .i64 nn] 35) := four_far (x0 := (.int .i64 ps')) (x1 := (.int .i64 pd)) (x2 := (.int .i64 pq)) (x3 := (.string px)) YJ.out hne2
          have WP : Hid (Bk ((((V4.setCell ⟨bp, 0, none⟩ (.int .i64 ps')).setCell ⟨bp, 1, none⟩ (.int .i64 pd)).setCell ⟨bp, 2, none⟩ (.int .i64 pq)).setCell ⟨bp, 3, none⟩ (.string px)) bp #[.int .i64 ps', .int .i64 pd, .int .i64 pq, .string px] 33) := fourp_at (x0 := (.int .i64 ps')) (x1 := (.int .i64 pd)) (x2 := (.int .i64 pq)) (x3 := (.string px)) YP.out
          have WB : Hid (Below v5.heap.size v5 ((((V4.setCell ⟨bp, 0, none⟩ (.int .i64 ps')).setCell ⟨bp, 1, none⟩ (.int .i64 pd)).setCell ⟨bp, 2, none⟩ (.int .i64 pq)).setCell ⟨bp, 3, none⟩ (.string px))) := below_four YB.out lp (.int .i64 ps') (.int .i64 pd) (.int .i64 pq) (.string px)
          refine hK.out _ _ (Or.inr (SS.out _ WB.out)) ?_
          clear hK K A0 A1 A2 A3 Z0 Z1 Z2 Z3 YJ YP YB
          generalize (((V4.setCell ⟨bp, 0, none⟩ (.int .i64 ps')).setCell ⟨bp, 1, none⟩ (.int .i64 pd)).setCell ⟨bp, 2, none⟩ (.int .i64 pq)).setCell ⟨bp, 3, none⟩ (.string px) = V5 at *
          refine wpAnyG_one (i := 15) (by kernel_rfl) rfl (fun K hK => ?_)
          go_simp
          refine hK.out _ _ (Or.inr (SS.out _ WB.out)) ?_
          clear hK K
          refine wpAnyG_one (i := 16) (by kernel_rfl) rfl (fun K hK => ?_)
          go_simp
          refine hK.out _ _ (Or.inl (by kernel_rfl)) ?_
          clear hK K
          refine wpAnyG_done (by kernel_rfl) ?_ _
          go_wp2
          go_meet
          exact ⟨bj, bp, rfl, rfl, rfl, rfl, WJ.out, WP.out, lj, lp, WB.out⟩
        · clear hi
          refine wpOpG (i := 12) rfl (fun K hK => ?_)
          go_simp
          have X2 : Hid (Below v5.heap.size v5 (V1.alloc (.cells #[.int .i64 0, .int .i64 0, .int .i64 0, .string ⟨#[]⟩] 33))) := X.out.alloc X.out.size _
          have KP : Hid (Bk (V1.alloc (.cells #[.int .i64 0, .int .i64 0, .int .i64 0, .string ⟨#[]⟩] 33)) V1.heap.size #[.int .i64 0, .int .i64 0, .int .i64 0, .string ⟨#[]⟩] 33) := Bk.new _ _ _
          have lp : v5.heap.size ≤ V1.heap.size := X.out.size
          have KJ2 : Hid (Bk (V1.alloc (.cells #[.int .i64 0, .int .i64 0, .int .i64 0, .string ⟨#[]⟩] 33)) bj #[.bool false, .int .i64 0, .int .i64 0, .int .i64 0, .string ⟨#[]⟩, .int .i64 0] 35) := KJ.out.alloc _
          have hne2 : ¬ bj = V1.heap.size := by have := KJ.out.lt; omega
          refine hK.out _ _ (Or.inr (SS.out _ X2.out)) ?_
          clear hK K X KJ
          have X := X2
          clear X2
          have KJ := KJ2
          clear KJ2
          generalize V1.alloc (.cells #[.int .i64 0, .int .i64 0, .int .i64 0, .string ⟨#[]⟩] 33) = V2 at *
          generalize V1.heap.size = bp at *
          try simp only [Act.put, List.setIfInBounds_toArray, List.set_cons_zero, List.set_cons_succ]
          refine wpAnyG_one (i := 5) (by kernel_rfl) rfl (fun K hK => ?_)
          go_simp
          with_reducible refine (HRR.out _).mono ?_
          rintro e VX ⟨rfl, hbx⟩
          have X2 : Hid (Below v5.heap.size v5 VX) := X.out.trans (hbx.mono X.out.size)
          have KJ2 : Hid (Bk VX bj #[.bool false, .int .i64 0, .int .i64 0, .int .i64 0, .string ⟨#[]⟩, .int .i64 0] 35) := KJ.out.next hbx
          have KP2 : Hid (Bk VX bp #[.int .i64 0, .int .i64 0, .int .i64 0, .string ⟨#[]⟩] 33) := KP.out.next hbx
          refine hK.out _ _ (Or.inr (SS.out _ X2.out)) ?_
          clear hK K hbx X KJ KP
          have X := X2
          clear X2
          have KJ := KJ2
          clear KJ2
          have KP := KP2
          clear KP2
          generalize VX = V3 at *
          try simp only [Act.put, List.setIfInBounds_toArray, List.set_cons_zero, List.set_cons_succ]
          have S0 : (fun V : World => V.cell? ⟨c, 0, none⟩ = some (.bool sb) ∧ V.cell? ⟨c, 1, none⟩ = some (.int .i64 ss) ∧ V.cell? ⟨c, 2, none⟩ = some (.int .i64 sd) ∧ V.cell? ⟨c, 3, none⟩ = some (.int .i64 sq) ∧ V.cell? ⟨c, 4, none⟩ = some (.string sx) ∧ V.cell? ⟨c, 5, none⟩ = some (.int .i64 sn) ∧ V.cell? ⟨g, o + j, none⟩ = some (.int .u64 (W : Int))) V3 := SS.out _ X.out
          refine wpAnyG_take [16] (some 71) (i := 6) (v := ?vt106) rfl rfl (by kernel_rfl) (by kernel_rfl) (by kernel_rfl) (by kernel_rfl) (fun _ _ _ h => h) (Or.inl ⟨by rfl, ?yt106⟩) S0 ?rt106
          case yt106 => (intro V hSV; obtain ⟨d0, d1, d2, d3, d4, d5, d6⟩ := hSV; go_simp; try with_reducible rfl)
          simp only [Act.put, List.setIfInBounds_toArray, List.set_cons_zero, List.set_cons_succ]
          refine wpAnyG_take [16] (some 78) (i := 7) (v := ?vt107) rfl rfl (by kernel_rfl) (by kernel_rfl) (by kernel_rfl) (by kernel_rfl) (fun _ _ _ h => h) (Or.inl ⟨by rfl, ?yt107⟩) S0 ?rt107
          case yt107 => (intro V hSV; obtain ⟨d0, d1, d2, d3, d4, d5, d6⟩ := hSV; go_simp; try with_reducible rfl)
          simp only [Act.put, List.setIfInBounds_toArray, List.set_cons_zero, List.set_cons_succ]
          refine wpAnyG_take [16] (some 79) (i := 8) (v := ?vt108) rfl rfl (by kernel_rfl) (by kernel_rfl) (by kernel_rfl) (by kernel_rfl) (fun _ _ _ h => h) (Or.inl ⟨by rfl, ?yt108⟩) S0 ?rt108
          case yt108 => (intro V hSV; obtain ⟨d0, d1, d2, d3, d4, d5, d6⟩ := hSV; go_simp; try with_reducible rfl)
          simp only [Act.put, List.setIfInBounds_toArray, List.set_cons_zero, List.set_cons_succ]
          refine wpAnyG_take [16] (some 80) (i := 9) (v := ?vt109) rfl rfl (by kernel_rfl) (by kernel_rfl) (by kernel_rfl) (by kernel_rfl) (fun _ _ _ h => h) (Or.inl ⟨by rfl, ?yt109⟩) S0 ?rt109
          case yt109 => (intro V hSV; obtain ⟨d0, d1, d2, d3, d4, d5, d6⟩ := hSV; go_simp; try with_reducible rfl)
          simp only [Act.put, List.setIfInBounds_toArray, List.set_cons_zero, List.set_cons_succ]
          refine wpAnyG_take [16] (some 81) (i := 10) (v := ?vt1010) rfl rfl (by kernel_rfl) (by kernel_rfl) (by kernel_rfl) (by kernel_rfl) (fun _ _ _ h => h) (Or.inl ⟨by rfl, ?yt1010⟩) S0 ?rt1010
          case yt1010 => (intro V hSV; obtain ⟨d0, d1, d2, d3, d4, d5, d6⟩ := hSV; go_simp; try with_reducible rfl)
          simp only [Act.put, List.setIfInBounds_toArray, List.set_cons_zero, List.set_cons_succ]
          clear S0
          have A0 : V3.cell? ⟨bj, 0, none⟩ = some (.bool false) := KJ.out.cell 0
          have A1 : V3.cell? ⟨bj, 1, none⟩ = some (.int .i64 0) := KJ.out.cell 1
          have A2 : V3.cell? ⟨bj, 2, none⟩ = some (.int .i64 0) := KJ.out.cell 2
          have A3 : V3.cell? ⟨bj, 3, none⟩ = some (.int .i64 0) := KJ.out.cell 3
          have A4 : V3.cell? ⟨bj, 4, none⟩ = some (.string ⟨#[]⟩) := KJ.out.cell 4
          have A5 : V3.cell? ⟨bj, 5, none⟩ = some (.int .i64 0) := KJ.out.cell 5
          have Z0 : V3.frozen? ⟨bj, 0, none⟩ = false := KJ.out.free 0
          have Z1 : V3.frozen? ⟨bj, 1, none⟩ = false := KJ.out.free 1
          have Z2 : V3.frozen? ⟨bj, 2, none⟩ = false := KJ.out.free 2
          have Z3 : V3.frozen? ⟨bj, 3, none⟩ = false := KJ.out.free 3
          have Z4 : V3.frozen? ⟨bj, 4, none⟩ = false := KJ.out.free 4
          have Z5 : V3.frozen? ⟨bj, 5, none⟩ = false := KJ.out.free 5
          refine wpAnyG_one (i := 13) (by kernel_rfl) rfl (fun K hK => ?_)
          go_simp
          have YJ : Hid (Bk ((((((V3.setCell ⟨bj, 0, none⟩ (.bool nb')).setCell ⟨bj, 1, none⟩ (.int .i64 ns)).setCell ⟨bj, 2, none⟩ (.int .i64 nd)).setCell ⟨bj, 3, none⟩ (.int .i64 nq')).setCell ⟨bj, 4, none⟩ (.string nx)).setCell ⟨bj, 5, none⟩ (.int .i64 nn)) bj #[.bool nb', .int .i64 ns, .int .i64 nd, .int .i64 nq', .string nx, .int .i64 nn] 35) := six_at (x0 := .bool nb') (x1 := .int .i64 ns) (x2 := .int .i64 nd) (x3 := .int .i64 nq') (x4 := .string nx) (x5 := .int .i64 nn) KJ.out
          have YP : Hid (Bk ((((((V3.setCell ⟨bj, 0, none⟩ (.bool nb')).setCell ⟨bj, 1, none⟩ (.int .i64 ns)).setCell ⟨bj, 2, none⟩ (.int .i64 nd)).setCell ⟨bj, 3, none⟩ (.int .i64 nq')).setCell ⟨bj, 4, none⟩ (.string nx)).setCell ⟨bj, 5, none⟩ (.int .i64 nn)) bp #[.int .i64 0, .int .i64 0, .int .i64 0, .string ⟨#[]⟩] 33) := six_far (x0 := .bool nb') (x1 := .int .i64 ns) (x2 := .int .i64 nd) (x3 := .int .i64 nq') (x4 := .string nx) (x5 := .int .i64 nn) KP.out (fun e => hne2 e.symm)
          have YB : Hid (Below v5.heap.size v5 ((((((V3.setCell ⟨bj, 0, none⟩ (.bool nb')).setCell ⟨bj, 1, none⟩ (.int .i64 ns)).setCell ⟨bj, 2, none⟩ (.int .i64 nd)).setCell ⟨bj, 3, none⟩ (.int .i64 nq')).setCell ⟨bj, 4, none⟩ (.string nx)).setCell ⟨bj, 5, none⟩ (.int .i64 nn))) := below_6 X.out lj (.bool nb') (.int .i64 ns) (.int .i64 nd) (.int .i64 nq') (.string nx) (.int .i64 nn)
          refine hK.out _ _ (Or.inr (SS.out _ YB.out)) ?_
          clear hK K A0 A1 A2 A3 A4 A5 Z0 Z1 Z2 Z3 Z4 Z5 X KJ KP
          generalize (((((V3.setCell ⟨bj, 0, none⟩ (.bool nb')).setCell ⟨bj, 1, none⟩ (.int .i64 ns)).setCell ⟨bj, 2, none⟩ (.int .i64 nd)).setCell ⟨bj, 3, none⟩ (.int .i64 nq')).setCell ⟨bj, 4, none⟩ (.string nx)).setCell ⟨bj, 5, none⟩ (.int .i64 nn) = V4 at *
          have A0 : V4.cell? ⟨bp, 0, none⟩ = some (.int .i64 0) := YP.out.cell 0
          have A1 : V4.cell? ⟨bp, 1, none⟩ = some (.int .i64 0) := YP.out.cell 1
          have A2 : V4.cell? ⟨bp, 2, none⟩ = some (.int .i64 0) := YP.out.cell 2
          have A3 : V4.cell? ⟨bp, 3, none⟩ = some (.string ⟨#[]⟩) := YP.out.cell 3
          have Z0 : V4.frozen? ⟨bp, 0, none⟩ = false := YP.out.free 0
          have Z1 : V4.frozen? ⟨bp, 1, none⟩ = false := YP.out.free 1
          have Z2 : V4.frozen? ⟨bp, 2, none⟩ = false := YP.out.free 2
          have Z3 : V4.frozen? ⟨bp, 3, none⟩ = false := YP.out.free 3
          refine wpAnyG_one (i := 14) (by kernel_rfl) rfl (fun K hK => ?_)
          go_simp
          have WJ : Hid (Bk ((((V4.setCell ⟨bp, 0, none⟩ (.int .i64 ps')).setCell ⟨bp, 1, none⟩ (.int .i64 pd)).setCell ⟨bp, 2, none⟩ (.int .i64 pq)).setCell ⟨bp, 3, none⟩ (.string px)) bj #[.bool nb', .int .i64 ns, .int .i64 nd, .int .i64 nq', .string nx, .int .i64 nn] 35) := four_far (x0 := (.int .i64 ps')) (x1 := (.int .i64 pd)) (x2 := (.int .i64 pq)) (x3 := (.string px)) YJ.out hne2
          have WP : Hid (Bk ((((V4.setCell ⟨bp, 0, none⟩ (.int .i64 ps')).setCell ⟨bp, 1, none⟩ (.int .i64 pd)).setCell ⟨bp, 2, none⟩ (.int .i64 pq)).setCell ⟨bp, 3, none⟩ (.string px)) bp #[.int .i64 ps', .int .i64 pd, .int .i64 pq, .string px] 33) := fourp_at (x0 := (.int .i64 ps')) (x1 := (.int .i64 pd)) (x2 := (.int .i64 pq)) (x3 := (.string px)) YP.out
          have WB : Hid (Below v5.heap.size v5 ((((V4.setCell ⟨bp, 0, none⟩ (.int .i64 ps')).setCell ⟨bp, 1, none⟩ (.int .i64 pd)).setCell ⟨bp, 2, none⟩ (.int .i64 pq)).setCell ⟨bp, 3, none⟩ (.string px))) := below_four YB.out lp (.int .i64 ps') (.int .i64 pd) (.int .i64 pq) (.string px)
          refine hK.out _ _ (Or.inr (SS.out _ WB.out)) ?_
          clear hK K A0 A1 A2 A3 Z0 Z1 Z2 Z3 YJ YP YB
          generalize (((V4.setCell ⟨bp, 0, none⟩ (.int .i64 ps')).setCell ⟨bp, 1, none⟩ (.int .i64 pd)).setCell ⟨bp, 2, none⟩ (.int .i64 pq)).setCell ⟨bp, 3, none⟩ (.string px) = V5 at *
          refine wpAnyG_one (i := 15) (by kernel_rfl) rfl (fun K hK => ?_)
          go_simp
          refine hK.out _ _ (Or.inr (SS.out _ WB.out)) ?_
          clear hK K
          refine wpAnyG_one (i := 16) (by kernel_rfl) rfl (fun K hK => ?_)
          go_simp
          refine hK.out _ _ (Or.inl (by kernel_rfl)) ?_
          clear hK K
          refine wpAnyG_done (by kernel_rfl) ?_ _
          go_wp2
          go_meet
          exact ⟨bj, bp, rfl, rfl, rfl, rfl, WJ.out, WP.out, lj, lp, WB.out⟩
      · clear hi
        refine wpOpG (i := 12) rfl (fun K hK => ?_)
        go_simp
        have X2 : Hid (Below v5.heap.size v5 (V0.alloc (.cells #[.int .i64 0, .int .i64 0, .int .i64 0, .string ⟨#[]⟩] 33))) := X.out.alloc X.out.size _
        have KP : Hid (Bk (V0.alloc (.cells #[.int .i64 0, .int .i64 0, .int .i64 0, .string ⟨#[]⟩] 33)) V0.heap.size #[.int .i64 0, .int .i64 0, .int .i64 0, .string ⟨#[]⟩] 33) := Bk.new _ _ _
        have lp : v5.heap.size ≤ V0.heap.size := X.out.size
        refine hK.out _ _ (Or.inr (SS.out _ X2.out)) ?_
        clear hK K X
        have X := X2
        clear X2
        generalize V0.alloc (.cells #[.int .i64 0, .int .i64 0, .int .i64 0, .string ⟨#[]⟩] 33) = V1 at *
        generalize V0.heap.size = bp at *
        try simp only [Act.put, List.setIfInBounds_toArray, List.set_cons_zero, List.set_cons_succ]
        refine wpAnyG_any [5, 11] (by kernel_rfl) (by rfl) ?_
        intro i hi
        rcases mem2 hi with rfl | rfl
        · clear hi
          refine wpOpG (i := 5) rfl (fun K hK => ?_)
          go_simp
          with_reducible refine (HRR.out _).mono ?_
          rintro e VX ⟨rfl, hbx⟩
          have X2 : Hid (Below v5.heap.size v5 VX) := X.out.trans (hbx.mono X.out.size)
          have KP2 : Hid (Bk VX bp #[.int .i64 0, .int .i64 0, .int .i64 0, .string ⟨#[]⟩] 33) := KP.out.next hbx
          refine hK.out _ _ (Or.inr (SS.out _ X2.out)) ?_
          clear hK K hbx X KP
          have X := X2
          clear X2
          have KP := KP2
          clear KP2
          generalize VX = V2 at *
          try simp only [Act.put, List.setIfInBounds_toArray, List.set_cons_zero, List.set_cons_succ]
          have S0 : (fun V : World => V.cell? ⟨c, 0, none⟩ = some (.bool sb) ∧ V.cell? ⟨c, 1, none⟩ = some (.int .i64 ss) ∧ V.cell? ⟨c, 2, none⟩ = some (.int .i64 sd) ∧ V.cell? ⟨c, 3, none⟩ = some (.int .i64 sq) ∧ V.cell? ⟨c, 4, none⟩ = some (.string sx) ∧ V.cell? ⟨c, 5, none⟩ = some (.int .i64 sn) ∧ V.cell? ⟨g, o + j, none⟩ = some (.int .u64 (W : Int))) V2 := SS.out _ X.out
          refine wpAnyG_take [16] (some 71) (i := 6) (v := ?vt126) rfl rfl (by kernel_rfl) (by kernel_rfl) (by kernel_rfl) (by kernel_rfl) (fun _ _ _ h => h) (Or.inl ⟨by rfl, ?yt126⟩) S0 ?rt126
          case yt126 => (intro V hSV; obtain ⟨d0, d1, d2, d3, d4, d5, d6⟩ := hSV; go_simp; try with_reducible rfl)
          simp only [Act.put, List.setIfInBounds_toArray, List.set_cons_zero, List.set_cons_succ]
          refine wpAnyG_take [16] (some 78) (i := 7) (v := ?vt127) rfl rfl (by kernel_rfl) (by kernel_rfl) (by kernel_rfl) (by kernel_rfl) (fun _ _ _ h => h) (Or.inl ⟨by rfl, ?yt127⟩) S0 ?rt127
          case yt127 => (intro V hSV; obtain ⟨d0, d1, d2, d3, d4, d5, d6⟩ := hSV; go_simp; try with_reducible rfl)
          simp only [Act.put, List.setIfInBounds_toArray, List.set_cons_zero, List.set_cons_succ]
          refine wpAnyG_take [16] (some 79) (i := 8) (v := ?vt128) rfl rfl (by kernel_rfl) (by kernel_rfl) (by kernel_rfl) (by kernel_rfl) (fun _ _ _ h => h) (Or.inl ⟨by rfl, ?yt128⟩) S0 ?rt128
          case yt128 => (intro V hSV; obtain ⟨d0, d1, d2, d3, d4, d5, d6⟩ := hSV; go_simp; try with_reducible rfl)
          simp only [Act.put, List.setIfInBounds_toArray, List.set_cons_zero, List.set_cons_succ]
          refine wpAnyG_take [16] (some 80) (i := 9) (v := ?vt129) rfl rfl (by kernel_rfl) (by kernel_rfl) (by kernel_rfl) (by kernel_rfl) (fun _ _ _ h => h) (Or.inl ⟨by rfl, ?yt129⟩) S0 ?rt129
          case yt129 => (intro V hSV; obtain ⟨d0, d1, d2, d3, d4, d5, d6⟩ := hSV; go_simp; try with_reducible rfl)
          simp only [Act.put, List.setIfInBounds_toArray, List.set_cons_zero, List.set_cons_succ]
          refine wpAnyG_take [16] (some 81) (i := 10) (v := ?vt1210) rfl rfl (by kernel_rfl) (by kernel_rfl) (by kernel_rfl) (by kernel_rfl) (fun _ _ _ h => h) (Or.inl ⟨by rfl, ?yt1210⟩) S0 ?rt1210
          case yt1210 => (intro V hSV; obtain ⟨d0, d1, d2, d3, d4, d5, d6⟩ := hSV; go_simp; try with_reducible rfl)
          simp only [Act.put, List.setIfInBounds_toArray, List.set_cons_zero, List.set_cons_succ]
          clear S0
          refine wpAnyG_one (i := 11) (by kernel_rfl) rfl (fun K hK => ?_)
          go_simp
          have X2 : Hid (Below v5.heap.size v5 (V2.alloc (.cells #[.bool false, .int .i64 0, .int .i64 0, .int .i64 0, .string ⟨#[]⟩, .int .i64 0] 35))) := X.out.alloc X.out.size _
          have KJ : Hid (Bk (V2.alloc (.cells #[.bool false, .int .i64 0, .int .i64 0, .int .i64 0, .string ⟨#[]⟩, .int .i64 0] 35)) V2.heap.size #[.bool false, .int .i64 0, .int .i64 0, .int .i64 0, .string ⟨#[]⟩, .int .i64 0] 35) := Bk.new _ _ _
          have lj : v5.heap.size ≤ V2.heap.size := X.out.size
          have KP2 : Hid (Bk (V2.alloc (.cells #[.bool false, .int .i64 0, .int .i64 0, .int .i64 0, .string ⟨#[]⟩, .int .i64 0] 35)) bp #[.int .i64 0, .int .i64 0, .int .i64 0, .string ⟨#[]⟩] 33) := KP.out.alloc _
          have hne2 : ¬ V2.heap.size = bp := by have := KP.out.lt; omega
          refine hK.out _ _ (Or.inr (SS.out _ X2.out)) ?_
          clear hK K X KP
          have X := X2
          clear X2
          have KP := KP2
          clear KP2
          generalize V2.alloc (.cells #[.bool false, .int .i64 0, .int .i64 0, .int .i64 0, .string ⟨#[]⟩, .int .i64 0] 35) = V3 at *
          generalize V2.heap.size = bj at *
          try simp only [Act.put, List.setIfInBounds_toArray, List.set_cons_zero, List.set_cons_succ]
          have A0 : V3.cell? ⟨bj, 0, none⟩ = some (.bool false) := KJ.out.cell 0
          have A1 : V3.cell? ⟨bj, 1, none⟩ = some (.int .i64 0) := KJ.out.cell 1
          have A2 : V3.cell? ⟨bj, 2, none⟩ = some (.int .i64 0) := KJ.out.cell 2
          have A3 : V3.cell? ⟨bj, 3, none⟩ = some (.int .i64 0) := KJ.out.cell 3
          have A4 : V3.cell? ⟨bj, 4, none⟩ = some (.string ⟨#[]⟩) := KJ.out.cell 4
          have A5 : V3.cell? ⟨bj, 5, none⟩ = some (.int .i64 0) := KJ.out.cell 5
          have Z0 : V3.frozen? ⟨bj, 0, none⟩ = false := KJ.out.free 0
          have Z1 : V3.frozen? ⟨bj, 1, none⟩ = false := KJ.out.free 1
          have Z2 : V3.frozen? ⟨bj, 2, none⟩ = false := KJ.out.free 2
          have Z3 : V3.frozen? ⟨bj, 3, none⟩ = false := KJ.out.free 3
          have Z4 : V3.frozen? ⟨bj, 4, none⟩ = false := KJ.out.free 4
          have Z5 : V3.frozen? ⟨bj, 5, none⟩ = false := KJ.out.free 5
          refine wpAnyG_one (i := 13) (by kernel_rfl) rfl (fun K hK => ?_)
          go_simp
          have YJ : Hid (Bk ((((((V3.setCell ⟨bj, 0, none⟩ (.bool nb')).setCell ⟨bj, 1, none⟩ (.int .i64 ns)).setCell ⟨bj, 2, none⟩ (.int .i64 nd)).setCell ⟨bj, 3, none⟩ (.int .i64 nq')).setCell ⟨bj, 4, none⟩ (.string nx)).setCell ⟨bj, 5, none⟩ (.int .i64 nn)) bj #[.bool nb', .int .i64 ns, .int .i64 nd, .int .i64 nq', .string nx, .int .i64 nn] 35) := six_at (x0 := .bool nb') (x1 := .int .i64 ns) (x2 := .int .i64 nd) (x3 := .int .i64 nq') (x4 := .string nx) (x5 := .int .i64 nn) KJ.out
          have YP : Hid (Bk ((((((V3.setCell ⟨bj, 0, none⟩ (.bool nb')).setCell ⟨bj, 1, none⟩ (.int .i64 ns)).setCell ⟨bj, 2, none⟩ (.int .i64 nd)).setCell ⟨bj, 3, none⟩ (.int .i64 nq')).setCell ⟨bj, 4, none⟩ (.string nx)).setCell ⟨bj, 5, none⟩ (.int .i64 nn)) bp #[.int .i64 0, .int .i64 0, .int .i64 0, .string ⟨#[]⟩] 33) := six_far (x0 := .bool nb') (x1 := .int .i64 ns) (x2 := .int .i64 nd) (x3 := .int .i64 nq') (x4 := .string nx) (x5 := .int .i64 nn) KP.out (fun e => hne2 e.symm)
          have YB : Hid (Below v5.heap.size v5 ((((((V3.setCell ⟨bj, 0, none⟩ (.bool nb')).setCell ⟨bj, 1, none⟩ (.int .i64 ns)).setCell ⟨bj, 2, none⟩ (.int .i64 nd)).setCell ⟨bj, 3, none⟩ (.int .i64 nq')).setCell ⟨bj, 4, none⟩ (.string nx)).setCell ⟨bj, 5, none⟩ (.int .i64 nn))) := below_6 X.out lj (.bool nb') (.int .i64 ns) (.int .i64 nd) (.int .i64 nq') (.string nx) (.int .i64 nn)
          refine hK.out _ _ (Or.inr (SS.out _ YB.out)) ?_
          clear hK K A0 A1 A2 A3 A4 A5 Z0 Z1 Z2 Z3 Z4 Z5 X KJ KP
          generalize (((((V3.setCell ⟨bj, 0, none⟩ (.bool nb')).setCell ⟨bj, 1, none⟩ (.int .i64 ns)).setCell ⟨bj, 2, none⟩ (.int .i64 nd)).setCell ⟨bj, 3, none⟩ (.int .i64 nq')).setCell ⟨bj, 4, none⟩ (.string nx)).setCell ⟨bj, 5, none⟩ (.int .i64 nn) = V4 at *
          have A0 : V4.cell? ⟨bp, 0, none⟩ = some (.int .i64 0) := YP.out.cell 0
          have A1 : V4.cell? ⟨bp, 1, none⟩ = some (.int .i64 0) := YP.out.cell 1
          have A2 : V4.cell? ⟨bp, 2, none⟩ = some (.int .i64 0) := YP.out.cell 2
          have A3 : V4.cell? ⟨bp, 3, none⟩ = some (.string ⟨#[]⟩) := YP.out.cell 3
          have Z0 : V4.frozen? ⟨bp, 0, none⟩ = false := YP.out.free 0
          have Z1 : V4.frozen? ⟨bp, 1, none⟩ = false := YP.out.free 1
          have Z2 : V4.frozen? ⟨bp, 2, none⟩ = false := YP.out.free 2
          have Z3 : V4.frozen? ⟨bp, 3, none⟩ = false := YP.out.free 3
          refine wpAnyG_one (i := 14) (by kernel_rfl) rfl (fun K hK => ?_)
          go_simp
          have WJ : Hid (Bk ((((V4.setCell ⟨bp, 0, none⟩ (.int .i64 ps')).setCell ⟨bp, 1, none⟩ (.int .i64 pd)).setCell ⟨bp, 2, none⟩ (.int .i64 pq)).setCell ⟨bp, 3, none⟩ (.string px)) bj #[.bool nb', .int .i64 ns, .int .i64 nd, .int .i64 nq', .string nx, .int .i64 nn] 35) := four_far (x0 := (.int .i64 ps')) (x1 := (.int .i64 pd)) (x2 := (.int .i64 pq)) (x3 := (.string px)) YJ.out hne2
          have WP : Hid (Bk ((((V4.setCell ⟨bp, 0, none⟩ (.int .i64 ps')).setCell ⟨bp, 1, none⟩ (.int .i64 pd)).setCell ⟨bp, 2, none⟩ (.int .i64 pq)).setCell ⟨bp, 3, none⟩ (.string px)) bp #[.int .i64 ps', .int .i64 pd, .int .i64 pq, .string px] 33) := fourp_at (x0 := (.int .i64 ps')) (x1 := (.int .i64 pd)) (x2 := (.int .i64 pq)) (x3 := (.string px)) YP.out
          have WB : Hid (Below v5.heap.size v5 ((((V4.setCell ⟨bp, 0, none⟩ (.int .i64 ps')).setCell ⟨bp, 1, none⟩ (.int .i64 pd)).setCell ⟨bp, 2, none⟩ (.int .i64 pq)).setCell ⟨bp, 3, none⟩ (.string px))) := below_four YB.out lp (.int .i64 ps') (.int .i64 pd) (.int .i64 pq) (.string px)
          refine hK.out _ _ (Or.inr (SS.out _ WB.out)) ?_
          clear hK K A0 A1 A2 A3 Z0 Z1 Z2 Z3 YJ YP YB
          generalize (((V4.setCell ⟨bp, 0, none⟩ (.int .i64 ps')).setCell ⟨bp, 1, none⟩ (.int .i64 pd)).setCell ⟨bp, 2, none⟩ (.int .i64 pq)).setCell ⟨bp, 3, none⟩ (.string px) = V5 at *
          refine wpAnyG_one (i := 15) (by kernel_rfl) rfl (fun K hK => ?_)
          go_simp
          refine hK.out _ _ (Or.inr (SS.out _ WB.out)) ?_
          clear hK K
          refine wpAnyG_one (i := 16) (by kernel_rfl) rfl (fun K hK => ?_)
          go_simp
          refine hK.out _ _ (Or.inl (by kernel_rfl)) ?_
          clear hK K
          refine wpAnyG_done (by kernel_rfl) ?_ _
          go_wp2
          go_meet
          exact ⟨bj, bp, rfl, rfl, rfl, rfl, WJ.out, WP.out, lj, lp, WB.out⟩
        · clear hi
          refine wpOpG (i := 11) rfl (fun K hK => ?_)
          go_simp
          have X2 : Hid (Below v5.heap.size v5 (V1.alloc (.cells #[.bool false, .int .i64 0, .int .i64 0, .int .i64 0, .string ⟨#[]⟩, .int .i64 0] 35))) := X.out.alloc X.out.size _
          have KJ : Hid (Bk (V1.alloc (.cells #[.bool false, .int .i64 0, .int .i64 0, .int .i64 0, .string ⟨#[]⟩, .int .i64 0] 35)) V1.heap.size #[.bool false, .int .i64 0, .int .i64 0, .int .i64 0, .string ⟨#[]⟩, .int .i64 0] 35) := Bk.new _ _ _
          have lj : v5.heap.size ≤ V1.heap.size := X.out.size
          have KP2 : Hid (Bk (V1.alloc (.cells #[.bool false, .int .i64 0, .int .i64 0, .int .i64 0, .string ⟨#[]⟩, .int .i64 0] 35)) bp #[.int .i64 0, .int .i64 0, .int .i64 0, .string ⟨#[]⟩] 33) := KP.out.alloc _
          have hne2 : ¬ V1.heap.size = bp := by have := KP.out.lt; omega
          refine hK.out _ _ (Or.inr (SS.out _ X2.out)) ?_
          clear hK K X KP
          have X := X2
          clear X2
          have KP := KP2
          clear KP2
          generalize V1.alloc (.cells #[.bool false, .int .i64 0, .int .i64 0, .int .i64 0, .string ⟨#[]⟩, .int .i64 0] 35) = V2 at *
          generalize V1.heap.size = bj at *
          try simp only [Act.put, List.setIfInBounds_toArray, List.set_cons_zero, List.set_cons_succ]
          refine wpAnyG_one (i := 5) (by kernel_rfl) rfl (fun K hK => ?_)
          go_simp
          with_reducible refine (HRR.out _).mono ?_
          rintro e VX ⟨rfl, hbx⟩
          have X2 : Hid (Below v5.heap.size v5 VX) := X.out.trans (hbx.mono X.out.size)
          have KJ2 : Hid (Bk VX bj #[.bool false, .int .i64 0, .int .i64 0, .int .i64 0, .string ⟨#[]⟩, .int .i64 0] 35) := KJ.out.next hbx
          have KP2 : Hid (Bk VX bp #[.int .i64 0, .int .i64 0, .int .i64 0, .string ⟨#[]⟩] 33) := KP.out.next hbx
          refine hK.out _ _ (Or.inr (SS.out _ X2.out)) ?_
          clear hK K hbx X KJ KP
          have X := X2
          clear X2
          have KJ := KJ2
          clear KJ2
          have KP := KP2
          clear KP2
          generalize VX = V3 at *
          try simp only [Act.put, List.setIfInBounds_toArray, List.set_cons_zero, List.set_cons_succ]
          have S0 : (fun V : World => V.cell? ⟨c, 0, none⟩ = some (.bool sb) ∧ V.cell? ⟨c, 1, none⟩ = some (.int .i64 ss) ∧ V.cell? ⟨c, 2, none⟩ = some (.int .i64 sd) ∧ V.cell? ⟨c, 3, none⟩ = some (.int .i64 sq) ∧ V.cell? ⟨c, 4, none⟩ = some (.string sx) ∧ V.cell? ⟨c, 5, none⟩ = some (.int .i64 sn) ∧ V.cell? ⟨g, o + j, none⟩ = some (.int .u64 (W : Int))) V3 := SS.out _ X.out
          refine wpAnyG_take [16] (some 71) (i := 6) (v := ?vt156) rfl rfl (by kernel_rfl) (by kernel_rfl) (by kernel_rfl) (by kernel_rfl) (fun _ _ _ h => h) (Or.inl ⟨by rfl, ?yt156⟩) S0 ?rt156
          case yt156 => (intro V hSV; obtain ⟨d0, d1, d2, d3, d4, d5, d6⟩ := hSV; go_simp; try with_reducible rfl)
          simp only [Act.put, List.setIfInBounds_toArray, List.set_cons_zero, List.set_cons_succ]
          refine wpAnyG_take [16] (some 78) (i := 7) (v := ?vt157) rfl rfl (by kernel_rfl) (by kernel_rfl) (by kernel_rfl) (by kernel_rfl) (fun _ _ _ h => h) (Or.inl ⟨by rfl, ?yt157⟩) S0 ?rt157
          case yt157 => (intro V hSV; obtain ⟨d0, d1, d2, d3, d4, d5, d6⟩ := hSV; go_simp; try with_reducible rfl)
          simp only [Act.put, List.setIfInBounds_toArray, List.set_cons_zero, List.set_cons_succ]
          refine wpAnyG_take [16] (some 79) (i := 8) (v := ?vt158) rfl rfl (by kernel_rfl) (by kernel_rfl) (by kernel_rfl) (by kernel_rfl) (fun _ _ _ h => h) (Or.inl ⟨by rfl, ?yt158⟩) S0 ?rt158
          case yt158 => (intro V hSV; obtain ⟨d0, d1, d2, d3, d4, d5, d6⟩ := hSV; go_simp; try with_reducible rfl)
          simp only [Act.put, List.setIfInBounds_toArray, List.set_cons_zero, List.set_cons_succ]
          refine wpAnyG_take [16] (some 80) (i := 9) (v := ?vt159) rfl rfl (by kernel_rfl) (by kernel_rfl) (by kernel_rfl) (by kernel_rfl) (fun _ _ _ h => h) (Or.inl ⟨by rfl, ?yt159⟩) S0 ?rt159
          case yt159 => (intro V hSV; obtain ⟨d0, d1, d2, d3, d4, d5, d6⟩ := hSV; go_simp; try with_reducible rfl)
          simp only [Act.put, List.setIfInBounds_toArray, List.set_cons_zero, List.set_cons_succ]
          refine wpAnyG_take [16] (some 81) (i := 10) (v := ?vt1510) rfl rfl (by kernel_rfl) (by kernel_rfl) (by kernel_rfl) (by kernel_rfl) (fun _ _ _ h => h) (Or.inl ⟨by rfl, ?yt1510⟩) S0 ?rt1510
          case yt1510 => (intro V hSV; obtain ⟨d0, d1, d2, d3, d4, d5, d6⟩ := hSV; go_simp; try with_reducible rfl)
          simp only [Act.put, List.setIfInBounds_toArray, List.set_cons_zero, List.set_cons_succ]
          clear S0
          have A0 : V3.cell? ⟨bj, 0, none⟩ = some (.bool false) := KJ.out.cell 0
          have A1 : V3.cell? ⟨bj, 1, none⟩ = some (.int .i64 0) := KJ.out.cell 1
          have A2 : V3.cell? ⟨bj, 2, none⟩ = some (.int .i64 0) := KJ.out.cell 2
          have A3 : V3.cell? ⟨bj, 3, none⟩ = some (.int .i64 0) := KJ.out.cell 3
          have A4 : V3.cell? ⟨bj, 4, none⟩ = some (.string ⟨#[]⟩) := KJ.out.cell 4
          have A5 : V3.cell? ⟨bj, 5, none⟩ = some (.int .i64 0) := KJ.out.cell 5
          have Z0 : V3.frozen? ⟨bj, 0, none⟩ = false := KJ.out.free 0
          have Z1 : V3.frozen? ⟨bj, 1, none⟩ = false := KJ.out.free 1
          have Z2 : V3.frozen? ⟨bj, 2, none⟩ = false := KJ.out.free 2
          have Z3 : V3.frozen? ⟨bj, 3, none⟩ = false := KJ.out.free 3
          have Z4 : V3.frozen? ⟨bj, 4, none⟩ = false := KJ.out.free 4
          have Z5 : V3.frozen? ⟨bj, 5, none⟩ = false := KJ.out.free 5
          refine wpAnyG_one (i := 13) (by kernel_rfl) rfl (fun K hK => ?_)
          go_simp
          have YJ : Hid (Bk ((((((V3.setCell ⟨bj, 0, none⟩ (.bool nb')).setCell ⟨bj, 1, none⟩ (.int .i64 ns)).setCell ⟨bj, 2, none⟩ (.int .i64 nd)).setCell ⟨bj, 3, none⟩ (.int .i64 nq')).setCell ⟨bj, 4, none⟩ (.string nx)).setCell ⟨bj, 5, none⟩ (.int .i64 nn)) bj #[.bool nb', .int .i64 ns, .int .i64 nd, .int .i64 nq', .string nx, .int .i64 nn] 35) := six_at (x0 := .bool nb') (x1 := .int .i64 ns) (x2 := .int .i64 nd) (x3 := .int .i64 nq') (x4 := .string nx) (x5 := .int .i64 nn) KJ.out
          have YP : Hid (Bk ((((((V3.setCell ⟨bj, 0, none⟩ (.bool nb')).setCell ⟨bj, 1, none⟩ (.int .i64 ns)).setCell ⟨bj, 2, none⟩ (.int .i64 nd)).setCell ⟨bj, 3, none⟩ (.int .i64 nq')).setCell ⟨bj, 4, none⟩ (.string nx)).setCell ⟨bj, 5, none⟩ (.int .i64 nn)) bp #[.int .i64 0, .int .i64 0, .int .i64 0, .string ⟨#[]⟩] 33) := six_far (x0 := .bool nb') (x1 := .int .i64 ns) (x2 := .int .i64 nd) (x3 := .int .i64 nq') (x4 := .string nx) (x5 := .int .i64 nn) KP.out (fun e => hne2 e.symm)
          have YB : Hid (Below v5.heap.size v5 ((((((V3.setCell ⟨bj, 0, none⟩ (.bool nb')).setCell ⟨bj, 1, none⟩ (.int .i64 ns)).setCell ⟨bj, 2, none⟩ (.int .i64 nd)).setCell ⟨bj, 3, none⟩ (.int .i64 nq')).setCell ⟨bj, 4, none⟩ (.string nx)).setCell ⟨bj, 5, none⟩ (.int .i64 nn))) := below_6 X.out lj (.bool nb') (.int .i64 ns) (.int .i64 nd) (.int .i64 nq') (.string nx) (.int .i64 nn)
          refine hK.out _ _ (Or.inr (SS.out _ YB.out)) ?_
          clear hK K A0 A1 A2 A3 A4 A5 Z0 Z1 Z2 Z3 Z4 Z5 X KJ KP
          generalize (((((V3.setCell ⟨bj, 0, none⟩ (.bool nb')).setCell ⟨bj, 1, none⟩ (.int .i64 ns)).setCell ⟨bj, 2, none⟩ (.int .i64 nd)).setCell ⟨bj, 3, none⟩ (.int .i64 nq')).setCell ⟨bj, 4, none⟩ (.string nx)).setCell ⟨bj, 5, none⟩ (.int .i64 nn) = V4 at *
          have A0 : V4.cell? ⟨bp, 0, none⟩ = some (.int .i64 0) := YP.out.cell 0
          have A1 : V4.cell? ⟨bp, 1, none⟩ = some (.int .i64 0) := YP.out.cell 1
          have A2 : V4.cell? ⟨bp, 2, none⟩ = some (.int .i64 0) := YP.out.cell 2
          have A3 : V4.cell? ⟨bp, 3, none⟩ = some (.string ⟨#[]⟩) := YP.out.cell 3
          have Z0 : V4.frozen? ⟨bp, 0, none⟩ = false := YP.out.free 0
          have Z1 : V4.frozen? ⟨bp, 1, none⟩ = false := YP.out.free 1
          have Z2 : V4.frozen? ⟨bp, 2, none⟩ = false := YP.out.free 2
          have Z3 : V4.frozen? ⟨bp, 3, none⟩ = false := YP.out.free 3
          refine wpAnyG_one (i := 14) (by kernel_rfl) rfl (fun K hK => ?_)
          go_simp
          have WJ : Hid (Bk ((((V4.setCell ⟨bp, 0, none⟩ (.int .i64 ps')).setCell ⟨bp, 1, none⟩ (.int .i64 pd)).setCell ⟨bp, 2, none⟩ (.int .i64 pq)).setCell ⟨bp, 3, none⟩ (.string px)) bj #[.bool nb', .int .i64 ns, .int .i64 nd, .int .i64 nq', .string nx, .int .i64 nn] 35) := four_far (x0 := (.int .i64 ps')) (x1 := (.int .i64 pd)) (x2 := (.int .i64 pq)) (x3 := (.string px)) YJ.out hne2
          have WP : Hid (Bk ((((V4.setCell ⟨bp, 0, none⟩ (.int .i64 ps')).setCell ⟨bp, 1, none⟩ (.int .i64 pd)).setCell ⟨bp, 2, none⟩ (.int .i64 pq)).setCell ⟨bp, 3, none⟩ (.string px)) bp #[.int .i64 ps', .int .i64 pd, .int .i64 pq, .string px] 33) := fourp_at (x0 := (.int .i64 ps')) (x1 := (.int .i64 pd)) (x2 := (.int .i64 pq)) (x3 := (.string px)) YP.out
          have WB : Hid (Below v5.heap.size v5 ((((V4.setCell ⟨bp, 0, none⟩ (.int .i64 ps')).setCell ⟨bp, 1, none⟩ (.int .i64 pd)).setCell ⟨bp, 2, none⟩ (.int .i64 pq)).setCell ⟨bp, 3, none⟩ (.string px))) := below_four YB.out lp (.int .i64 ps') (.int .i64 pd) (.int .i64 pq) (.string px)
          refine hK.out _ _ (Or.inr (SS.out _ WB.out)) ?_
          clear hK K A0 A1 A2 A3 Z0 Z1 Z2 Z3 YJ YP YB
          generalize (((V4.setCell ⟨bp, 0, none⟩ (.int .i64 ps')).setCell ⟨bp, 1, none⟩ (.int .i64 pd)).setCell ⟨bp, 2, none⟩ (.int .i64 pq)).setCell ⟨bp, 3, none⟩ (.string px) = V5 at *
          refine wpAnyG_one (i := 15) (by kernel_rfl) rfl (fun K hK => ?_)
          go_simp
          refine hK.out _ _ (Or.inr (SS.out _ WB.out)) ?_
          clear hK K
          refine wpAnyG_one (i := 16) (by kernel_rfl) rfl (fun K hK => ?_)
          go_simp
          refine hK.out _ _ (Or.inl (by kernel_rfl)) ?_
          clear hK K
          refine wpAnyG_done (by kernel_rfl) ?_ _
          go_wp2
          go_meet
          exact ⟨bj, bp, rfl, rfl, rfl, rfl, WJ.out, WP.out, lj, lp, WB.out⟩
    case rest =>
    obtain ⟨bj, bp, rfl, rfl, rfl, rfl, m1, m2, l1, l2, m3⟩ := hcut
    have Y0 : wc.cell? ⟨bj, 0, none⟩ = some (.bool nb') := m1.cell 0
    have Y1 : wc.cell? ⟨bj, 1, none⟩ = some (.int .i64 ns) := m1.cell 1
    have Y2 : wc.cell? ⟨bj, 2, none⟩ = some (.int .i64 nd) := m1.cell 2
    have Y3 : wc.cell? ⟨bj, 3, none⟩ = some (.int .i64 nq') := m1.cell 3
    have Y4 : wc.cell? ⟨bj, 4, none⟩ = some (.string nx) := m1.cell 4
    have Y5 : wc.cell? ⟨bj, 5, none⟩ = some (.int .i64 nn) := m1.cell 5
    have KC := K2.out.below m3 hz5c
    have T0 : wc.cell? ⟨c, 0, none⟩ = some (.bool sb) := KC.cell 0
    have Z0 : wc.frozen? ⟨c, 0, none⟩ = false := KC.free 0
    have T1 : wc.cell? ⟨c, 1, none⟩ = some (.int .i64 ss) := KC.cell 1
    have Z1 : wc.frozen? ⟨c, 1, none⟩ = false := KC.free 1
    have T2 : wc.cell? ⟨c, 2, none⟩ = some (.int .i64 sd) := KC.cell 2
    have Z2 : wc.frozen? ⟨c, 2, none⟩ = false := KC.free 2
    have T3 : wc.cell? ⟨c, 3, none⟩ = some (.int .i64 sq) := KC.cell 3
    have Z3 : wc.frozen? ⟨c, 3, none⟩ = false := KC.free 3
    have T4 : wc.cell? ⟨c, 4, none⟩ = some (.string sx) := KC.cell 4
    have Z4 : wc.frozen? ⟨c, 4, none⟩ = false := KC.free 4
    have T5 : wc.cell? ⟨c, 5, none⟩ = some (.int .i64 sn) := KC.cell 5
    have Z5 : wc.frozen? ⟨c, 5, none⟩ = false := KC.free 5
    have N1 : Hid (Bk ((((((wc.setCell ⟨c, 0, none⟩ (.bool nb')).setCell ⟨c, 1, none⟩ (.int .i64 ns)).setCell ⟨c, 2, none⟩ (.int .i64 nd)).setCell ⟨c, 3, none⟩ (.int .i64 nq')).setCell ⟨c, 4, none⟩ (.string nx)).setCell ⟨c, 5, none⟩ (.int .i64 nn)) b (pj ⟨nb', ns, nd, nq', nx, nn⟩) 64) := six_far (x0 := .bool nb') (x1 := .int .i64 ns) (x2 := .int .i64 nd) (x3 := .int .i64 nq') (x4 := .string nx) (x5 := .int .i64 nn) (K1.out.below m3 hz5b) hne
    have N2 : Hid (Bk ((((((wc.setCell ⟨c, 0, none⟩ (.bool nb')).setCell ⟨c, 1, none⟩ (.int .i64 ns)).setCell ⟨c, 2, none⟩ (.int .i64 nd)).setCell ⟨c, 3, none⟩ (.int .i64 nq')).setCell ⟨c, 4, none⟩ (.string nx)).setCell ⟨c, 5, none⟩ (.int .i64 nn)) c #[.bool nb', .int .i64 ns, .int .i64 nd, .int .i64 nq', .string nx, .int .i64 nn] 35) := six_at (x0 := .bool nb') (x1 := .int .i64 ns) (x2 := .int .i64 nd) (x3 := .int .i64 nq') (x4 := .string nx) (x5 := .int .i64 nn) KC
    have N3 : Hid (Bk ((((((wc.setCell ⟨c, 0, none⟩ (.bool nb')).setCell ⟨c, 1, none⟩ (.int .i64 ns)).setCell ⟨c, 2, none⟩ (.int .i64 nd)).setCell ⟨c, 3, none⟩ (.int .i64 nq')).setCell ⟨c, 4, none⟩ (.string nx)).setCell ⟨c, 5, none⟩ (.int .i64 nn)) cp #[.int .i64 ps', .int .i64 pd, .int .i64 pq, .string px] 33) := six_far (x0 := .bool nb') (x1 := .int .i64 ns) (x2 := .int .i64 nd) (x3 := .int .i64 nq') (x4 := .string nx) (x5 := .int .i64 nn) (K3.out.below m3 hz5p) (by omega)
    have N4 : Hid (Bk ((((((wc.setCell ⟨c, 0, none⟩ (.bool nb')).setCell ⟨c, 1, none⟩ (.int .i64 ns)).setCell ⟨c, 2, none⟩ (.int .i64 nd)).setCell ⟨c, 3, none⟩ (.int .i64 nq')).setCell ⟨c, 4, none⟩ (.string nx)).setCell ⟨c, 5, none⟩ (.int .i64 nn)) bp #[.int .i64 ps', .int .i64 pd, .int .i64 pq, .string px] 33) := six_far (x0 := .bool nb') (x1 := .int .i64 ns) (x2 := .int .i64 nd) (x3 := .int .i64 nq') (x4 := .string nx) (x5 := .int .i64 nn) m2 (by omega)
    have hb5 : b ≤ c := by omega
    have N5 : Hid (Below b w4 ((((((wc.setCell ⟨c, 0, none⟩ (.bool nb')).setCell ⟨c, 1, none⟩ (.int .i64 ns)).setCell ⟨c, 2, none⟩ (.int .i64 nd)).setCell ⟨c, 3, none⟩ (.int .i64 nq')).setCell ⟨c, 4, none⟩ (.string nx)).setCell ⟨c, 5, none⟩ (.int .i64 nn))) := below_6 (B1.out.trans (m3.mono (Nat.le_of_lt hz5b))) hb5 (.bool nb') (.int .i64 ns) (.int .i64 nd) (.int .i64 nq') (.string nx) (.int .i64 nn)
    clear m1 m2 m3 K1 K2 K3 B1 KC
    go_upto_region 16 with fail
    clear Y0 Y1 Y2 Y3 Y4 Y5 T0 T1 T2 T3 T4 T5 Z0 Z1 Z2 Z3 Z4 Z5 c1
    generalize ((((((wc.setCell ⟨c, 0, none⟩ (.bool nb')).setCell ⟨c, 1, none⟩ (.int .i64 ns)).setCell ⟨c, 2, none⟩ (.int .i64 nd)).setCell ⟨c, 3, none⟩ (.int .i64 nq')).setCell ⟨c, 4, none⟩ (.string nx)).setCell ⟨c, 5, none⟩ (.int .i64 nn)) = v6 at *
    have p0 := N3.out.cell 0
    have p1 := N3.out.cell 1
    have p2 := N3.out.cell 2
    have p3 := N3.out.cell 3
    have q0 := N4.out.cell 0
    have q1 := N4.out.cell 1
    have q2 := N4.out.cell 2
    have q3 := N4.out.cell 3
    have j0 := N2.out.cell 0
    have j4 := N2.out.cell 4
    simp only [List.getElem?_toArray, List.getElem?_cons_zero, List.getElem?_cons_succ] at p0 p1 p2 p3 q0 q1 q2 q3 j0 j4
    have BC := fun m => begun_any (N1.out.drewN m)
    have HC := fun m => has_any (N1.out.drewN m)
    simp only at BC HC
    go_wp2_with fail
    go_quiet (first
      | (go_at_call 13; exact Calls.quiet_of_same ((BC _).mono fun _ _ h => ⟨h.1, h.2.symm⟩))
      | (go_at_call 14; exact Calls.quiet_of_same ((HC _).mono fun _ _ h => ⟨h.1, h.2.symm⟩)))
    go_wp2
    go_roundw
    case rel =>
      exact ⟨j + 1, by omega, rfl, by rw [HJ2.out]; exact N1.out.drewN _, by rw [HJ2.out]; exact N2.out.drewN _, dn N5.out _⟩
    case measure => simp [RowKit.intOf]; omega
end Go.Proofs.Ytockjijhckkicaa
