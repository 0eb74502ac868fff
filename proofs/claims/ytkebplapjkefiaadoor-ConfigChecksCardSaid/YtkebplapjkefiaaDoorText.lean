/-
  The walk of config.Text.
-/
import Derived.Test.YtkebplapjkefiaaDoorEnv
import Derived.Test.YtkebplapjkefiaaDoorOwn
import Derived.Lib.ItoaLen
import Derived.Deep.RegionHeld3
namespace Go.Proofs.YtkebplapjkefiaaDoor
open Go.RowKit Go.Lib

theorem Tryd.info9 : (Tryd.prog.info? 9).map (fun i => (i.zero, i.size, i.bytes)) = some (some (.string ⟨#[]⟩), 1, 16) := by kernel_rfl

/-- Numbers that an int holds. -/
def int64 (n : Int) : Prop := -9223372036854775808 ≤ n ∧ n ≤ 9223372036854775807
structure In (c : Cf) : Prop where
  w : int64 c.w
  h : int64 c.h
  l : int64 c.l
  d : int64 c.d
  r : int64 c.r
  i : int64 c.i
  b : int64 c.b

theorem int_any (n : Int) (h : int64 n) (w : World) (hE : Env w) : Calls Tryd.prog 22 #[.int .i64 n] w fun e w' => e = .returned (.string (bs (itoa n))) ∧ Below w.heap.size w w' := itoa_any n h.1 h.2 w hE
theorem itoa_len {n : Int} (h : int64 n) : (itoa n).length ≤ 21 := itoa_length_le n h.1 h.2

theorem At.env {w v : World} {c : Cf} (h : At w c v) (hE : Env w) : Env v := hE.next h.below
theorem At.drew {w v : World} {c : Cf} (h : At w c v) : At w c v.drew := Below.drew h
theorem At.of {w v : World} {c : Cf} (h : Below (w.heap.size + 1) (w.alloc (.cells (cfc c) 23)) v) : At w c v := h
theorem At.two {w v : World} {c : Cf} (h : At w c v) : v.cell? ⟨w.heap.size, 0, none⟩ = some (.int .i64 c.w) ∧ v.cell? ⟨w.heap.size, 1, none⟩ = some (.int .i64 c.h) := ⟨h.cell 0, h.cell 1⟩

theorem bs_app (a b : L) : bs a ++ bs b = bs (a ++ b) := by
  apply ByteArray.ext
  show ((bs a) ++ (bs b)).data = _
  rw [ByteArray.data_append]
  simp
theorem add_str (a b : L) (h : a.length + b.length ≤ 100000) (w : World) : (Op.stringOp .add (bs a) (bs b)).run Tryd.prog w = .ok (.string (bs (a ++ b))) w := by
  rw [run_string_add_sum (a := bs a) (b := bs b) (h := by rw [bs_size, bs_size]; omega), bs_app]

def vs (xs : List L) : List Value := xs.map fun x => .string (bs x)
theorem vs_at {xs : List L} {j : Nat} {x : L} (h : xs[j]? = some x) : (vs xs)[j]? = some (.string (bs x)) := by simp [vs, h]
theorem vs_snoc (xs : List L) (x : L) : vs xs ++ [.string (bs x)] = vs (xs ++ [x]) := by simp [vs]
theorem vs_len (xs : List L) : (vs xs).length = xs.length := by simp [vs]

theorem join_own {xs : List L} {w : World} {B : Nat} {v : Value} (h : Own 9 w B v (vs xs)) (h0 : 0 < xs.length) (h1 : xs.length ≤ 100) (h2 : (join xs [32]).length ≤ 1000) :
    Calls Tryd.prog 23 #[v, .string (bs [32])] w fun e w' => e = .returned (.string (bs (join xs [32]))) ∧ Below w.heap.size w w' := by
  obtain ⟨g, cap, rfl, hc1, _, _, hg, hc⟩ := h.form (by rw [vs_len]; exact h0)
  rw [vs_len] at hc1 ⊢
  exact join_any g xs cap w (fun j x hx => hc j _ (vs_at hx)) hg h1 hc1 (by omega)

def nums (c : Cf) : List Int := [c.l, c.d, c.r, c.i, c.b]
/-- The words, so far. -/
def wl (c : Cf) (k : Nat) : List L := (itoa c.w ++ [120] ++ itoa c.h) :: ((nums c).take k).map itoa
def words (c : Cf) : List L := wl c 5 ++ ((if c.we = true then [west] else []) ++ (if c.ca = true then [cast] else []))

theorem join_words (c : Cf) : join (words c) [32] = txt c := by
  unfold words wl nums txt tailW tailC
  cases c.we <;> cases c.ca <;> simp [join_cons, joinTail]

theorem wl_snoc (c : Cf) (k : Nat) (h : k < 5) : wl c k ++ [itoa ((nums c).getD k 0)] = wl c (k + 1) := by
  unfold wl
  rw [List.take_add_one]
  have : (nums c)[k]? = some ((nums c).getD k 0) := by
    rw [List.getD_eq_getElem?_getD, List.getElem?_eq_getElem (by simp [nums]; omega)]
    rfl
  rw [this]
  simp

theorem nums_in {c : Cf} (h : In c) (k : Nat) (hk : k < 5) : int64 ((nums c).getD k 0) := by
  obtain ⟨_, _, a, b, d, e, f⟩ := h
  rcases (by omega : k = 0 ∨ k = 1 ∨ k = 2 ∨ k = 3 ∨ k = 4) with rfl | rfl | rfl | rfl | rfl <;> assumption

theorem words_len (c : Cf) (h : In c) : (join (words c) [32]).length ≤ 1000 := by
  rw [join_words]
  have h1 := itoa_len h.w
  have h2 := itoa_len h.h
  have h3 := itoa_len h.l
  have h4 := itoa_len h.d
  have h5 := itoa_len h.r
  have h6 := itoa_len h.i
  have h7 := itoa_len h.b
  unfold txt tailW tailC west cast
  cases c.we <;> cases c.ca <;> simp <;> omega

set_option maxRecDepth 100000 in
set_option maxHeartbeats 2000000 in
theorem text_any (c : Cf) (hi : In c) (w : World) (hE : Env w) : Calls Tryd.prog 15 #[cfv c] w fun e w' => e = .returned (.string (bs (txt c))) ∧ Below w.heap.size w w' := by
  obtain ⟨i0, ki, hz0, hz1, hz2⟩ := info_parts Tryd.info9
  have K1 := fun v hv => int_any c.w hi.w v hv
  have K2 := fun v hv => int_any c.h hi.h v hv
  have T0 : Hid (At w c (w.alloc (.cells (cfc c) 23)).drew) := (At.start w c).drew
  have HE : Hid (Env w) := hE
  clear hE
  have l1 := itoa_len hi.w
  have l2 := itoa_len hi.h
  have A1 := fun w => add_str (itoa c.w) [120] (by simp; omega) w
  have A2 := fun w => add_str (itoa c.w ++ [120]) (itoa c.h) (by simp; omega) w
  have HI : Hid (In c) := hi
  clear hi l1 l2
  obtain ⟨TX, hTX⟩ : ∃ t, t = txt c := ⟨_, rfl⟩
  rw [← hTX]
  obtain ⟨C, hC⟩ : ∃ C, C = c := ⟨_, rfl⟩
  have HTX : Hid (join (words C) [32] = TX) := by rw [hC, hTX]; exact join_words c
  clear hTX
  have HX : Hid (C = c) := hC
  clear hC
  obtain ⟨cw, ch, cl, cd, cr, ci, cb, we, ca⟩ := c
  simp only [cfv, cfc] at *
  obtain ⟨s1, hs1⟩ : ∃ s, s = bs (itoa cw) := ⟨_, rfl⟩
  obtain ⟨s2, hs2⟩ : ∃ s, s = bs (itoa ch) := ⟨_, rfl⟩
  obtain ⟨s3, hs3⟩ : ∃ s, s = bs (itoa cw ++ [120]) := ⟨_, rfl⟩
  obtain ⟨s4, hs4⟩ : ∃ s, s = bs (itoa cw ++ [120] ++ itoa ch) := ⟨_, rfl⟩
  rw [← hs1, ← hs3] at A1
  rw [← hs2, ← hs3, ← hs4] at A2
  rw [← hs1] at K1
  rw [← hs2] at K2
  have HS4 : Hid (s4 = bs (itoa cw ++ [120] ++ itoa ch)) := hs4
  clear hs1 hs2 hs3 hs4
  go_enter Tryd.func15, Tryd.ntmps15
  go_wp2_with fail
  have T0 := T0.out
  have S0 := T0.two
  have E0 := T0.env HE.out
  go_region_held3 (fun v => v.cell? ⟨w.heap.size, 0, none⟩ = some (.int .i64 cw) ∧ v.cell? ⟨w.heap.size, 1, none⟩ = some (.int .i64 ch))
    (first | exact S2 | exact S1 | exact S0 | go_keep)
    (first
      | (go_at_call 22; (with_reducible refine (K1 _ E0).mono ?_); rintro e v1 ⟨rfl, hb1⟩; have T1 := T0.trans hb1; have S1 := T1.two; have E1 := T1.env HE.out)
      | (go_at_call 22; (with_reducible refine (K2 _ E1).mono ?_); rintro e v2 ⟨rfl, hb2⟩; have T2 := T1.trans hb2; have S2 := T2.two))
  clear T0 S0 E0 T1 S1 E1 S2 A1 A2 K1 K2 hb1 hb2
  have T3 := T2.alloc (.cells #[.string s4] 9)
  obtain ⟨-, -, x2, x3, x4, x5, x6, -, -⟩ := T3.cells
  simp only at x2 x3 x4 x5 x6
  have hz : w.heap.size < v2.heap.size := by have := T2.size; omega
  have OWN : Hid (Own 9 ((v2.alloc (.cells #[.string s4] 9)).alloc (.cells #[.int .i64 cl, .int .i64 cd, .int .i64 cr, .int .i64 ci, .int .i64 cb] 3)) (w.heap.size + 1) (.slice (some ⟨v2.heap.size, 0, none⟩) 1 1) (vs (wl C 0))) := by
    have h := (Own.lit (e := 9) (B := w.heap.size + 1) (w := v2) #[.string s4] (by omega) (by simp)).below ((Below.refl _ _).alloc (Nat.le_refl _) (.cells #[.int .i64 cl, .int .i64 cd, .int .i64 cr, .int .i64 ci, .int .i64 cb] 3))
    have e : vs (wl C 0) = [.string s4] := by rw [HX.out, HS4.out]; rfl
    rw [e]
    exact h
  have Q0 : Hid (((v2.alloc (.cells #[.string s4] 9)).alloc (.cells #[.int .i64 cl, .int .i64 cd, .int .i64 cr, .int .i64 ci, .int .i64 cb] 3)).heap[v2.heap.size + 1]? = some (.cells #[.int .i64 cl, .int .i64 cd, .int .i64 cr, .int .i64 ci, .int .i64 cb] 3 (0, 0))) := by
    have h := heap_alloc_new (v2.alloc (.cells #[.string s4] 9)) (.cells #[.int .i64 cl, .int .i64 cd, .int .i64 cr, .int .i64 ci, .int .i64 cb] 3)
    rw [show (v2.alloc (.cells #[.string s4] 9)).heap.size = v2.heap.size + 1 by simp] at h
    exact h
  have T4 : Hid (At w ⟨cw, ch, cl, cd, cr, ci, cb, we, ca⟩ ((v2.alloc (.cells #[.string s4] 9)).alloc (.cells #[.int .i64 cl, .int .i64 cd, .int .i64 cr, .int .i64 ci, .int .i64 cb] 3))) := T3.alloc _
  have NC : Hid (nums C = [cl, cd, cr, ci, cb]) := by rw [HX.out]; rfl
  have HIC : Hid (In C) := by rw [HX.out]; exact HI.out
  have HWN : Hid (words C = wl C 5 ++ ((if we = true then [west] else []) ++ (if ca = true then [cast] else []))) := by rw [HX.out]; rfl
  have HLN : Hid ((join (words C) [32]).length ≤ 1000) := words_len C HIC.out
  clear T2 T3 HX HI HS4
  go_wp2_with fail
  go_loopw [3, 27] (fun v i wr => ∃ k : Nat, k ≤ 5 ∧ i = .int .i64 k ∧ Own 9 wr (w.heap.size + 1) v (vs (wl C k)) ∧ At w ⟨cw, ch, cl, cd, cr, ci, cb, we, ca⟩ wr ∧ wr.heap[v2.heap.size + 1]? = some (.cells #[.int .i64 cl, .int .i64 cd, .int .i64 cr, .int .i64 ci, .int .i64 cb] 3 (0, 0))) (fun _ i _ => 5 - (RowKit.intOf i).toNat)
  case atStart => exact ⟨0, Nat.zero_le _, rfl, OWN.out, T4.out, Q0.out⟩
  case round =>
    obtain ⟨k, hk, rfl, own, hat, hq⟩ := hrel
    have hsz : w.heap.size + 1 ≤ wr.heap.size := hat.size
    by_cases hlt : k < 5
    · have hn := nums_in HIC.out k hlt
      have hsn := wl_snoc C k hlt
      have hcell : wr.cell? ⟨v2.heap.size + 1, k, none⟩ = some (.int .i64 ((nums C).getD k 0)) := by
        rw [cell_of hq, NC.out]
        rcases (by omega : k = 0 ∨ k = 1 ∨ k = 2 ∨ k = 3 ∨ k = 4) with rfl | rfl | rfl | rfl | rfl <;> rfl
      have K := int_any _ hn wr (hat.env HE.out)
      have hll : (vs (wl C k)).length ≤ 1000000 := by rw [vs_len]; unfold wl; simp; omega
      have hs2 := vs_snoc (wl C k) (itoa ((nums C).getD k 0))
      rw [hsn] at hs2
      generalize (nums C).getD k 0 = n at *
      generalize bs (itoa n) = s at *
      have HSN : Hid (vs (wl C k) ++ [.string s] = vs (wl C (k + 1))) := hs2
      generalize vs (wl C k) = LL at *
      have HOWN : Hid (Own 9 wr (w.heap.size + 1) _ LL) := own
      have HAT : Hid (At w ⟨cw, ch, cl, cd, cr, ci, cb, we, ca⟩ wr) := hat
      have HQ : Hid (wr.heap[v2.heap.size + 1]? = some (.cells #[.int .i64 cl, .int .i64 cd, .int .i64 cr, .int .i64 ci, .int .i64 cb] 3 (0, 0))) := hq
      have hqs := lt_of_heap hq
      clear hn hsn hs2 own hat hq
      go_wp2_with fail
      go_at_call 22
      refine K.mono ?_
      rintro e wa ⟨rfl, hb⟩
      have own := HOWN.out.below hb
      have hat := HAT.out.trans hb
      have hq := (hb.block _ hqs).trans HQ.out
      have hsa : w.heap.size + 1 ≤ wa.heap.size := hat.size
      clear hb HOWN HAT HQ hqs hcell K
      have HAT : Hid (At w ⟨cw, ch, cl, cd, cr, ci, cb, we, ca⟩ wa) := hat
      have HQ : Hid (wa.heap[v2.heap.size + 1]? = some (.cells #[.int .i64 cl, .int .i64 cd, .int .i64 cr, .int .i64 ci, .int .i64 cb] 3 (0, 0))) := hq
      clear hat hq
      go_wp2_with (at_builtin; refine wpList_app_one rfl (.tmp 31) (.tmp 34) 42 9 i0 (.string ⟨#[]⟩) 16 rfl Tryd.underlying42 ki hz0 hz1 hz2 rfl (by decide) (w.heap.size + 1) wa _ _ (.string s) rfl own rfl rfl hll hsa ?_; intro v1' wb o1 kb; have ab := kb.2.1 _ HAT.out; have qb := kb.2.2.2 _ _ _ _ (by decide) HQ.out; clear kb own)
      rw [HSN.out] at o1
      go_roundw
      case rel => exact ⟨k + 1, by omega, by go_num, o1, ab, qb⟩
      case measure => simp [RowKit.intOf]; omega
    · obtain rfl : k = 5 := by omega
      obtain ⟨-, -, -, -, -, -, -, x7, x8⟩ := hat.cells
      have hl5 : (vs (wl C 5)).length = 6 := by rw [vs_len]; unfold wl nums; rfl
      have HAT : Hid (At w ⟨cw, ch, cl, cd, cr, ci, cb, we, ca⟩ wr) := hat
      clear hat hq NC HIC
      cases we <;> cases ca
      · have HW : words C = wl C 5 := by rw [HWN.out]; simp
        have HSwr : Hid (w.heap.size + 1 ≤ wr.heap.size) := hsz
        have HATwr := HAT
        have HOWN : Hid (Own 9 wr (w.heap.size + 1) _ (vs (wl C 5))) := own
        have HHW : Hid (words C = wl C 5) := HW
        clear own HW hsz
        have J := join_own (xs := words C) (by rw [HHW.out]; exact HOWN.out) (by rw [HHW.out]; simp [wl]) (by rw [HHW.out]; simp [wl, nums]) HLN.out
        rw [HTX.out] at J
        go_wp2_with (go_at_call 23; (with_reducible refine J.mono ?_); rintro e wz ⟨rfl, hb⟩)
        go_ret
        exact ⟨rfl, (HATwr.out.trans hb).below⟩
      · have HW : words C = wl C 5 ++ [cast] := by rw [HWN.out]; simp
        have HSwr : Hid (w.heap.size + 1 ≤ wr.heap.size) := hsz
        have HATwr := HAT
        have HOWN : Hid (Own 9 wr (w.heap.size + 1) _ (vs (wl C 5))) := own
        have HHW : Hid (words C = wl C 5 ++ [cast]) := HW
        clear own HW hsz
        go_wp2_with (at_builtin; refine wpList_app_one rfl (.tmp 44) (.tmp 45) 42 9 i0 (.string ⟨#[]⟩) 16 rfl Tryd.underlying42 ki hz0 hz1 hz2 rfl (by decide) (w.heap.size + 1) wr _ _ (.string (bs cast)) rfl HOWN.out rfl rfl (by simp [hl5]) HSwr.out ?_; intro v2 wd o2 kb; have ab2 := At.of (kb.2.1 _ HATwr.out); clear kb)
        have e2 := vs_snoc (wl C 5) cast
        rw [e2] at o2
        clear e2
        have HATwd : Hid (At w _ wd) := ab2
        have HO2 : Hid (Own 9 wd (w.heap.size + 1) _ (vs (wl C 5 ++ [cast]))) := o2
        clear ab2 o2
        have J := join_own (xs := words C) (by rw [HHW.out]; exact HO2.out) (by rw [HHW.out]; simp [wl]) (by rw [HHW.out]; simp [wl, nums]) HLN.out
        rw [HTX.out] at J
        go_wp2_with (go_at_call 23; (with_reducible refine J.mono ?_); rintro e wz ⟨rfl, hb⟩)
        go_ret
        exact ⟨rfl, (HATwd.out.trans hb).below⟩
      · have HW : words C = wl C 5 ++ [west] := by rw [HWN.out]; simp
        have HSwr : Hid (w.heap.size + 1 ≤ wr.heap.size) := hsz
        have HATwr := HAT
        have HOWN : Hid (Own 9 wr (w.heap.size + 1) _ (vs (wl C 5))) := own
        have HHW : Hid (words C = wl C 5 ++ [west]) := HW
        clear own HW hsz
        go_wp2_with (at_builtin; refine wpList_app_one rfl (.tmp 39) (.tmp 40) 42 9 i0 (.string ⟨#[]⟩) 16 rfl Tryd.underlying42 ki hz0 hz1 hz2 rfl (by decide) (w.heap.size + 1) wr _ _ (.string (bs west)) rfl HOWN.out rfl rfl (by simp [hl5]) HSwr.out ?_; intro v1 wb o1 kb; have ab1 := At.of (kb.2.1 _ HATwr.out); have y8 : wb.cell? ⟨w.heap.size, 8, none⟩ = some (.bool false) := ab1.cell 8; clear kb x7 x8)
        have e1 := vs_snoc (wl C 5) west
        rw [e1] at o1
        clear e1
        have hsz1 : w.heap.size + 1 ≤ wb.heap.size := ab1.size
        have HSwb : Hid (w.heap.size + 1 ≤ wb.heap.size) := hsz1
        have HATwb : Hid (At w _ wb) := ab1
        have HO1 : Hid (Own 9 wb (w.heap.size + 1) _ (vs (wl C 5 ++ [west]))) := o1
        clear ab1 o1 hsz1
        have hl6 : (vs (wl C 5 ++ [west])).length = 7 := by rw [vs_len]; unfold wl nums; rfl
        have J := join_own (xs := words C) (by rw [HHW.out]; exact HO1.out) (by rw [HHW.out]; simp [wl]) (by rw [HHW.out]; simp [wl, nums]) HLN.out
        rw [HTX.out] at J
        go_wp2_with (go_at_call 23; (with_reducible refine J.mono ?_); rintro e wz ⟨rfl, hb⟩)
        go_ret
        exact ⟨rfl, (HATwb.out.trans hb).below⟩
      · have HW : words C = wl C 5 ++ [west] ++ [cast] := by rw [HWN.out]; simp
        have HSwr : Hid (w.heap.size + 1 ≤ wr.heap.size) := hsz
        have HOWN : Hid (Own 9 wr (w.heap.size + 1) _ (vs (wl C 5))) := own
        have HHW : Hid (words C = wl C 5 ++ [west] ++ [cast]) := HW
        clear own HW hsz
        go_wp2_with (first
          | (at_builtin; refine wpList_app_one rfl (.tmp 39) (.tmp 40) 42 9 i0 (.string ⟨#[]⟩) 16 rfl Tryd.underlying42 ki hz0 hz1 hz2 rfl (by decide) (w.heap.size + 1) wr _ _ (.string (bs west)) rfl HOWN.out rfl rfl (by simp [hl5]) HSwr.out ?_; intro v1 wb o1 kb; have ab1 := At.of (kb.2.1 _ HAT.out); have y8 : wb.cell? ⟨w.heap.size, 8, none⟩ = some (.bool true) := ab1.cell 8; have hs1 : w.heap.size + 1 ≤ wb.heap.size := At.size ab1; clear kb x7 x8)
          | (at_builtin; refine wpList_app_one rfl (.tmp 44) (.tmp 45) 42 9 i0 (.string ⟨#[]⟩) 16 rfl Tryd.underlying42 ki hz0 hz1 hz2 rfl (by decide) (w.heap.size + 1) wb _ _ (.string (bs cast)) rfl o1 rfl rfl (by simp [hl5]) hs1 ?_; intro v2 wd o2 kb; have ab2 := At.of (kb.2.1 _ ab1); clear kb))
        have e2 : vs (wl C 5) ++ [.string (bs west)] ++ [.string (bs cast)] = vs (words C) := by rw [HHW.out]; simp [vs]
        rw [e2] at o2
        have HATwd : Hid (At w _ wd) := ab2
        have HO2 : Hid (Own 9 wd (w.heap.size + 1) _ (vs (words C))) := o2
        clear ab2 o2 e2
        have J := join_own (xs := words C) HO2.out (by rw [HHW.out]; simp [wl]) (by rw [HHW.out]; simp [wl, nums]) HLN.out
        rw [HTX.out] at J
        go_wp2_with (go_at_call 23; (with_reducible refine J.mono ?_); rintro e wz ⟨rfl, hb⟩)
        go_ret
        exact ⟨rfl, (HATwd.out.trans hb).below⟩
end Go.Proofs.YtkebplapjkefiaaDoor
