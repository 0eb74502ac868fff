/-
  The walk of the document's Read.
-/
import Derived.Test.YtkebplapjkefiaaDoorNumber
import Derived.Test.YtkebplapjkefiaaDoorRtext
namespace Go.Proofs.YtkebplapjkefiaaDoor
open Go.RowKit Go.Lib

theorem Zer.of {w v : World} (h : Below (w.heap.size + 1) (w.alloc (.cells (cfc zc) 23)) v) : Zer w v := h

theorem Own.formN {e : TypeId} {w : World} {B n : Nat} {v : Value} {l : List Value} (h : Own e w B v l) (hn : l.length = n) (hl : 0 < n) :
    ∃ g cap, v = .slice (some ⟨g, 0, none⟩) n cap ∧ B ≤ g ∧ g < w.heap.size ∧ ∀ j x, l[j]? = some x → w.cell? ⟨g, j, none⟩ = some x := by
  subst hn
  obtain ⟨g, cap, h1, _, _, h2, h3, h4⟩ := h.form hl
  exact ⟨g, cap, h1, h2, h3, h4⟩

def fo (s : L) (k : Nat) : List L × L := (s.take k).foldl step ([], [])
theorem fo_zero (s : L) : fo s 0 = ([], []) := by simp [fo]
theorem fo_succ {s : L} {k : Nat} {c : UInt8} (h : s[k]? = some c) : fo s (k + 1) = step (fo s k) c := by
  unfold fo
  rw [List.take_add_one, h, Option.toList_some, List.foldl_append]
  rfl
theorem fo_end (s : L) : spl s = (fo s s.length).1 ++ [(fo s s.length).2] := by
  unfold fo spl
  rw [List.take_length]
theorem fo_len (s : L) : ∀ k, (fo s k).1.length ≤ k ∧ (fo s k).2.length ≤ k := by
  intro k
  induction k with
  | zero => simp [fo_zero]
  | succ k ih =>
    cases h : s[k]? with
    | none =>
      have e : fo s (k + 1) = fo s k := by
        unfold fo
        rw [List.take_add_one, h]
        simp
      rw [e]
      omega
    | some c =>
      rw [fo_succ h]
      unfold step
      split <;> simp <;> omega
theorem step_sep (ws : List L) (u : L) (c : UInt8) (h : c = 32 ∨ (c = 120 ∧ ws = [])) : step (ws, u) c = (ws ++ [u], []) := by unfold step; rw [if_pos h]
theorem step_in (ws : List L) (u : L) (c : UInt8) (h : ¬ (c = 32 ∨ (c = 120 ∧ ws = []))) : step (ws, u) c = (ws, u ++ [c]) := by unfold step; rw [if_neg h]

theorem ext_one (s : L) (k : Nat) (c : UInt8) (h : s[k]? = some c) : (bs s).extract k (k + 1) = bs [c] := by
  apply ByteArray.ext
  rw [ByteArray.data_extract]
  apply Array.ext'
  rw [Array.toList_extract]
  have hk : k < s.length := (List.getElem?_eq_some_iff.mp h).1
  have hc : s[k] = c := (List.getElem?_eq_some_iff.mp h).2
  simp only [List.extract]
  rw [show k + 1 - k = 1 by omega, List.drop_eq_getElem_cons hk, hc]
  rfl

theorem fo_mem (s : L) : ∀ k, ∀ x ∈ (fo s k).1, x.length ≤ k := by
  intro k
  induction k with
  | zero => simp [fo_zero]
  | succ k ih =>
    cases h : s[k]? with
    | none =>
      have e : fo s (k + 1) = fo s k := by
        unfold fo
        rw [List.take_add_one, h]
        simp
      rw [e]
      intro x hx
      have := ih x hx
      omega
    | some c =>
      rw [fo_succ h]
      intro x hx
      have hl := (fo_len s k).2
      unfold step at hx
      split at hx
      · simp only [List.mem_append, List.mem_singleton] at hx
        rcases hx with hx | rfl
        · have := ih x hx
          omega
        · omega
      · have := ih x hx
        omega
theorem spl_mem (s : L) : ∀ x ∈ spl s, x.length ≤ s.length := by
  rw [fo_end]
  intro x hx
  simp only [List.mem_append, List.mem_singleton] at hx
  rcases hx with hx | rfl
  · exact fo_mem s _ x hx
  · exact (fo_len s _).2

/-- The words. -/
def Wds (v : World) (g : Nat) (ws : List L) : Prop := g < v.heap.size ∧ ∀ j x, ws[j]? = some x → v.cell? ⟨g, j, none⟩ = some (.string (bs x))
theorem Wds.below {v v' : World} {g : Nat} {ws : List L} (h : Wds v g ws) (hb : Below v.heap.size v v') : Wds v' g ws :=
  ⟨Nat.lt_of_lt_of_le h.1 hb.size, fun j x hj => by rw [hb.cell (p := ⟨g, j, none⟩) h.1]; exact h.2 j x hj⟩
theorem Wds.set {v : World} {g b : Nat} {ws : List L} (h : Wds v g ws) (hne : g ≠ b) (j : Nat) (x : Value) : Wds (v.setCell ⟨b, j, none⟩ x) g ws :=
  ⟨Nat.lt_of_lt_of_le h.1 (Below.setCell (Below.refl 0 v) (p := ⟨b, j, none⟩) (Nat.zero_le _) x).size, fun i y hi => by
    rw [World.cell?_of_block (w := v) (a := ⟨g, i, none⟩) (Below.heap_setCell v ⟨b, j, none⟩ x g hne)]
    exact h.2 i y hi⟩

/-- The seven numbers, so far. -/
def arrV (f : Nat → Int) (k : Nat) : Array Value := #[.int .i64 (if 0 < k then f 0 else 0), .int .i64 (if 1 < k then f 1 else 0), .int .i64 (if 2 < k then f 2 else 0), .int .i64 (if 3 < k then f 3 else 0), .int .i64 (if 4 < k then f 4 else 0), .int .i64 (if 5 < k then f 5 else 0), .int .i64 (if 6 < k then f 6 else 0)]
def Arr (v : World) (b : Nat) (A : Array Value) : Prop := v.heap[b]? = some (.cells A 47 (0, 0))
theorem Arr.cell {v : World} {b : Nat} {A : Array Value} (h : Arr v b A) (j : Nat) : v.cell? ⟨b, j, none⟩ = A[j]? := cell_of h j
theorem Arr.free {v : World} {b : Nat} {A : Array Value} (h : Arr v b A) (j : Nat) : v.frozen? ⟨b, j, none⟩ = false := by
  unfold Arr at h
  simp [World.frozen?, h]
theorem Arr.below {v v' : World} {b : Nat} {A : Array Value} (h : Arr v b A) (hb : Below v.heap.size v v') : Arr v' b A := by
  unfold Arr
  rw [hb.block b (lt_of_heap h)]
  exact h
theorem Arr.num {v : World} {b : Nat} {f : Nat → Int} {k : Nat} (h : Arr v b (arrV f k)) (o : Nat) (ho : o < 7) : ∃ n : Int, v.cell? ⟨b, o, none⟩ = some (.int .i64 n) := by
  rw [h.cell]
  rcases (by omega : o = 0 ∨ o = 1 ∨ o = 2 ∨ o = 3 ∨ o = 4 ∨ o = 5 ∨ o = 6) with rfl | rfl | rfl | rfl | rfl | rfl | rfl <;> exact ⟨_, rfl⟩
theorem Arr.set {v : World} {b : Nat} {f : Nat → Int} {k : Nat} (h : Arr v b (arrV f k)) (hk : k < 7) : Arr (v.setCell ⟨b, k, none⟩ (.int .i64 (f k))) b (arrV f (k + 1)) := by
  unfold Arr at h ⊢
  rcases (by omega : k = 0 ∨ k = 1 ∨ k = 2 ∨ k = 3 ∨ k = 4 ∨ k = 5 ∨ k = 6) with rfl | rfl | rfl | rfl | rfl | rfl | rfl <;> simp [World.setCell, Array.getElem?_modify, h, arrV]
theorem Arr.seven {v : World} {b : Nat} {f : Nat → Int} (h : Arr v b (arrV f 7)) :
    v.cell? ⟨b, 0, none⟩ = some (.int .i64 (f 0)) ∧ v.cell? ⟨b, 1, none⟩ = some (.int .i64 (f 1)) ∧ v.cell? ⟨b, 2, none⟩ = some (.int .i64 (f 2)) ∧ v.cell? ⟨b, 3, none⟩ = some (.int .i64 (f 3)) ∧
    v.cell? ⟨b, 4, none⟩ = some (.int .i64 (f 4)) ∧ v.cell? ⟨b, 5, none⟩ = some (.int .i64 (f 5)) ∧ v.cell? ⟨b, 6, none⟩ = some (.int .i64 (f 6)) :=
  ⟨h.cell 0, h.cell 1, h.cell 2, h.cell 3, h.cell 4, h.cell 5, h.cell 6⟩

/-- The words behind the seventh, so far. -/
def aw (ws : List L) (p : L) (k : Nat) : Bool := ((ws.take k).drop 7).any (· == p)
theorem aw_start (ws : List L) (p : L) : aw ws p 7 = false := by
  unfold aw
  rw [List.drop_eq_nil_of_le (by rw [List.length_take]; omega)]
  rfl
theorem aw_succ {ws : List L} {p x : L} {k : Nat} (h : ws[k]? = some x) (hk : 7 ≤ k) : aw ws p (k + 1) = (aw ws p k || (x == p)) := by
  have hl : k < ws.length := (List.getElem?_eq_some_iff.mp h).1
  unfold aw
  rw [List.take_add_one, h, Option.toList_some, List.drop_append_of_le_length (by rw [List.length_take]; omega), List.any_append]
  simp
theorem aw_end (ws : List L) (p : L) : aw ws p ws.length = (ws.drop 7).any (· == p) := by unfold aw; rw [List.take_length]

theorem Blk.seven {v : World} {b : Nat} {c : Cf} (h : Blk v b c) (t : Bool) : Blk (v.setCell ⟨b, 7, none⟩ (.bool t)) b { c with we := t } := by
  unfold Blk at h ⊢
  simp [World.setCell, Array.getElem?_modify, h]
theorem Blk.eight {v : World} {b : Nat} {c : Cf} (h : Blk v b c) (t : Bool) : Blk (v.setCell ⟨b, 8, none⟩ (.bool t)) b { c with ca := t } := by
  unfold Blk at h ⊢
  simp [World.setCell, Array.getElem?_modify, h]

theorem eq_word (x p : L) (w : World) : (binOp .eql 9 (.string (bs x)) (.string (bs p))).run Tryd.prog w = .ok (.bool (x == p)) w := by
  rw [binOp_string_eql, bs_toList, bs_toList]
  rfl

set_option maxRecDepth 100000 in
set_option maxHeartbeats 4000000 in
theorem rread_any (s : L) (hs : s.length ≤ 200) (w : World) : Calls Tryd.prog 18 #[.string (bs s)] w (RdP (rd s) w) := by
  obtain ⟨i0, ki, hz0, hz1, hz2⟩ := info_parts Tryd.info9
  have Z0 : Hid (Zer w (w.alloc (.cells (cfc zc) 23))) := Below.refl _ _
  obtain ⟨R, hR⟩ : ∃ R, R = rd s := ⟨_, rfl⟩
  rw [← hR]
  have HR : Hid (R = fin s (rpar s)) := by show _ = _; rw [hR, rrd_eq]
  clear hR
  have HSZ : Hid ((bs s).size = s.length) := bs_size s
  have HSL : Hid (s.length ≤ 200) := hs
  have HST : Hid ((bs s).toList = s) := bs_toList s
  have hS : (bs s).size ≤ 200 := by rw [bs_size]; exact hs
  have HBY : Hid (∀ k c, s[k]? = some c → (h : k < (bs s).size) → (bs s)[k].toNat = c.toNat) := fun k c hc h => by
    rw [byte_of s k h, List.getD_eq_getElem?_getD, hc]
    rfl
  have HEX : Hid (∀ k c, s[k]? = some c → (bs s).extract k (k + 1) = bs [c]) := ext_one s
  obtain ⟨S, hSS⟩ : ∃ S, S = bs s := ⟨_, rfl⟩
  rw [← hSS] at HSZ HST hS HBY HEX ⊢
  clear hs hSS
  simp only [cfc, zc] at Z0
  go_enter Tryd.func18, Tryd.ntmps18
  go_wp2
  obtain ⟨N, hN⟩ : ∃ N, N = s.length := ⟨_, rfl⟩
  have HN : Hid (N = s.length) := hN
  have hN2 : N ≤ 200 := by have := HSL.out; omega
  clear hN
  go_loopw [4, 5, 6] (fun v4 v5 i wr => ∃ k : Nat, k ≤ N ∧ i = .int .i64 k ∧ v5 = .string (bs (fo s k).2) ∧ Hid (Own 9 wr (w.heap.size + 1) v4 (vs (fo s k).1)) ∧ Hid (Zer w wr)) (fun _ _ i _ => 200 - (RowKit.intOf i).toNat)
  case atStart => exact ⟨0, Nat.zero_le _, rfl, by rw [fo_zero], by show Own _ _ _ _ _; rw [fo_zero]; exact Own.nil _ _ _, Z0.out⟩
  case round =>
    obtain ⟨k, hk, rfl, rfl, HOWN, HZ⟩ := hrel
    have hsz : w.heap.size + 1 ≤ wr.heap.size := HZ.out.lt
    by_cases hlt : k < N
    · obtain ⟨c, hc⟩ : ∃ c : UInt8, s[k]? = some c := ⟨s[k]'(by rw [← HN.out]; exact hlt), List.getElem?_eq_getElem _⟩
      have hi : k < S.size := by have := HSZ.out; have := HN.out; omega
      have h200 : k < 200 := by omega
      have hbyte : S[k].toNat = c.toNat := HBY.out k c hc hi
      have hx : S.extract k (k + 1) = bs [c] := HEX.out k c hc
      have hf := fo_succ hc
      have hl := fo_len s k
      obtain ⟨a, cap, rfl, -, -, -⟩ := HOWN.out.rd
      obtain ⟨⟨ws, u⟩, hfo⟩ : ∃ q, fo s k = q := ⟨_, rfl⟩
      rw [hfo] at HOWN hl hf ⊢
      clear hfo
      simp only at HOWN hl
      have hvl := vs_len ws
      have HLL : Hid ((vs ws).length ≤ 1000000) := by show _ ≤ _; omega
      have E := fun w => add_str u [c] (by simp; omega) w
      rw [← hx] at E
      have HU : Hid (bs u = bs u) := rfl
      obtain ⟨U, hU⟩ : ∃ U, U = bs u := ⟨_, rfl⟩
      obtain ⟨V, hV⟩ : ∃ V, V = bs (u ++ [c]) := ⟨_, rfl⟩
      rw [← hU, ← hV] at E
      rw [← hU] at HU ⊢
      clear HU
      have HU : Hid (bs u = U) := hU.symm
      have HV : Hid (V = bs (u ++ [c])) := hV
      clear hU hV hx hl hc
      obtain ⟨M, hM⟩ : ∃ M, M = (vs ws).length := ⟨_, rfl⟩
      rw [← hM] at HOWN hvl ⊢
      have HM : Hid (M = ws.length) := hvl
      clear hM hvl
      have hc256 := c.toNat_lt
      by_cases h32 : c = 32
      · have HF : Hid (fo s (k + 1) = (ws ++ [u], [])) := by show _ = _; rw [hf, step_sep _ _ _ (Or.inl h32)]
        subst h32
        have hbyte : S[k].toNat = 32 := hbyte
        clear hf E
        go_wp2_with (at_builtin; refine wpList_app_one rfl (.tmp 39) (.tmp 41) 42 9 i0 (.string ⟨#[]⟩) 16 rfl Tryd.underlying42 ki hz0 hz1 hz2 rfl (by decide) (w.heap.size + 1) wr _ _ (.string U) rfl HOWN.out rfl rfl HLL.out hsz ?_; intro v1' wb o1 kb; have zb := Zer.of (kb.2.1 _ HZ.out); clear kb)
        go_roundw
        case rel => exact ⟨k + 1, by omega, by go_num, by rw [HF.out], by show Own _ _ _ _ _; rw [HF.out]; show Own _ _ _ _ (vs (ws ++ [u])); rw [← vs_snoc, HU.out]; exact o1, zb⟩
        case measure => simp [RowKit.intOf]; omega
      · have hn32 : ((c.toNat : Int) == 32) = false := by
          simp only [beq_eq_false_iff_ne]
          intro h
          exact h32 (UInt8.toNat_inj.mp (by show c.toNat = 32; omega))
        by_cases h120 : c = 120
        · subst h120
          have hbyte : S[k].toNat = 120 := hbyte
          by_cases hw : ws = []
          · have HF : Hid (fo s (k + 1) = (ws ++ [u], [])) := by show _ = _; rw [hf, step_sep _ _ _ (Or.inr ⟨rfl, hw⟩)]
            have hM0 : M = 0 := by rw [HM.out, hw]; rfl
            clear hf E h32 hn32
            subst hM0
            go_wp2_with (at_builtin; refine wpList_app_one rfl (.tmp 39) (.tmp 41) 42 9 i0 (.string ⟨#[]⟩) 16 rfl Tryd.underlying42 ki hz0 hz1 hz2 rfl (by decide) (w.heap.size + 1) wr _ _ (.string U) rfl HOWN.out rfl rfl HLL.out hsz ?_; intro v1' wb o1 kb; have zb := Zer.of (kb.2.1 _ HZ.out); clear kb)
            go_roundw
            case rel => exact ⟨k + 1, by omega, by go_num, by rw [HF.out], by show Own _ _ _ _ _; rw [HF.out]; show Own _ _ _ _ (vs (ws ++ [u])); rw [← vs_snoc, HU.out]; exact o1, zb⟩
            case measure => simp [RowKit.intOf]; omega
          · have HF : Hid (fo s (k + 1) = (ws, u ++ [120])) := by show _ = _; rw [hf, step_in _ _ _ (by rintro (h | ⟨_, h⟩); exact h32 h; exact hw h)]
            have hM0 : 0 < M := by rw [HM.out]; exact List.length_pos_iff.mpr hw
            have hM1 : ((M : Int) == 0) = false := by simp; omega
            clear hf h32 hn32
            go_wp2
            go_roundw
            case rel => exact ⟨k + 1, by omega, by go_num, by rw [HF.out]; exact congrArg Value.string HV.out, by show Own _ _ _ _ _; rw [HF.out]; exact HOWN.out, HZ.out⟩
            case measure => simp [RowKit.intOf]; omega
        · have HF : Hid (fo s (k + 1) = (ws, u ++ [c])) := by show _ = _; rw [hf, step_in _ _ _ (by rintro (h | ⟨h, _⟩); exact h32 h; exact h120 h)]
          have hn120 : ((c.toNat : Int) == 120) = false := by
            simp only [beq_eq_false_iff_ne]
            intro h
            exact h120 (UInt8.toNat_inj.mp (by show c.toNat = 120; omega))
          generalize c.toNat = cn at *
          clear hf h32 h120
          go_wp2
          go_roundw
          case rel => exact ⟨k + 1, by omega, by go_num, by rw [HF.out]; exact congrArg Value.string HV.out, by show Own _ _ _ _ _; rw [HF.out]; exact HOWN.out, HZ.out⟩
          case measure => simp [RowKit.intOf]; omega
    · obtain rfl : k = N := by omega
      have hni : ¬ k < S.size := by have := HSZ.out; have := HN.out; omega
      have hspl := fo_end s
      rw [← HN.out] at hspl
      have hl := fo_len s k
      obtain ⟨⟨ws, u⟩, hfo⟩ : ∃ q, fo s k = q := ⟨_, rfl⟩
      rw [hfo] at HOWN hl hspl ⊢
      clear hfo
      simp only at HOWN hl hspl
      obtain ⟨n, hn⟩ : ∃ n, n = (spl s).length := ⟨_, rfl⟩
      have hn1 : n = ws.length + 1 := by rw [hn, hspl]; simp
      have HLL : Hid ((vs ws).length ≤ 1000000) := by show _ ≤ _; rw [vs_len]; omega
      have HNN : Hid ((vs ws ++ [Value.string (bs u)]).length = n) := by show _ = _; rw [List.length_append, vs_len, hn1]; rfl
      have HVS : Hid (vs ws ++ [Value.string (bs u)] = vs (spl s)) := by show _ = _; rw [hspl, vs_snoc]
      have hn0 : 0 < n := by omega
      have hn202 : n ≤ 201 := by omega
      have HNL : Hid (n = (spl s).length) := hn
      clear hn hn1 hspl hl
      generalize bs u = U at *
      by_cases h7 : n < 7
      · have HR2 : Hid (R = (zc, 2)) := by show _ = _; rw [HR.out]; unfold rpar; rw [if_pos (by rw [← HNL.out]; exact h7)]; rfl
        have h7' : (n : Int) < 7 := by omega
        go_wp2_with (at_builtin; refine wpList_app_one rfl (.tmp 50) (.tmp 52) 42 9 i0 (.string ⟨#[]⟩) 16 rfl Tryd.underlying42 ki hz0 hz1 hz2 rfl (by decide) (w.heap.size + 1) wr _ _ (.string U) rfl HOWN.out rfl rfl HLL.out hsz ?_; intro v1' wb o1 kb; have zb := Zer.of (kb.2.1 _ HZ.out); obtain ⟨g, cap2, rfl, hBg, hgl, hgc⟩ := o1.formN HNN.out hn0; have HZB : Hid (Zer w wb) := zb; obtain ⟨⟨z0, z1, z2, z3, z4, z5, z6, z7, z8⟩, f0, f1, f2, f3, f4, f5, f6, f7, f8⟩ := zb.blk.nine; clear kb hgc o1 zb)
        exact bodyPost_ret (v := .tuple #[.agg #[.int .i64 0, .int .i64 0, .int .i64 0, .int .i64 0, .int .i64 0, .int .i64 0, .int .i64 0, .bool false, .bool false], .int .i64 2]) (by simp [results, Tryd.results18, go_sem, z0, z1, z2, z3, z4, z5, z6, z7, z8]) rfl (RdP.mk HR2.out (below_nine HZB.out.below (Nat.le_refl _) _ _ _ _ _ _ _ _ _))
      · have h7' : ¬ (n : Int) < 7 := by omega
        go_wp2_with (at_builtin; refine wpList_app_one rfl (.tmp 50) (.tmp 52) 42 9 i0 (.string ⟨#[]⟩) 16 rfl Tryd.underlying42 ki hz0 hz1 hz2 rfl (by decide) (w.heap.size + 1) wr _ _ (.string U) rfl HOWN.out rfl rfl HLL.out hsz ?_; intro v1' wb o1 kb; have zb := Zer.of (kb.2.1 _ HZ.out); obtain ⟨g, cap2, rfl, hBg, hgl, hgc⟩ := o1.formN HNN.out hn0; have HZB : Hid (Zer w wb) := zb; have HGC : Hid (∀ j x, (vs ws ++ [Value.string U])[j]? = some x → wb.cell? ⟨g, j, none⟩ = some x) := hgc; clear kb hgc o1 zb)
        obtain ⟨wo, rfl⟩ : ∃ wo : World, wo = wr := ⟨_, rfl⟩
        obtain ⟨nb, hnb⟩ : ∃ nb, nb = wb.heap.size := ⟨_, rfl⟩
        rw [← hnb]
        have A0 : Hid (Arr (wb.alloc (.cells #[.int .i64 0, .int .i64 0, .int .i64 0, .int .i64 0, .int .i64 0, .int .i64 0, .int .i64 0] 47)) nb (arrV (at7 (spl s)) 0)) := by rw [hnb]; exact heap_alloc_new wb _
        have W0 : Hid (Wds (wb.alloc (.cells #[.int .i64 0, .int .i64 0, .int .i64 0, .int .i64 0, .int .i64 0, .int .i64 0, .int .i64 0] 47)) g (spl s)) := by
          have h : Wds wb g (spl s) := ⟨hgl, fun j x hj => HGC.out j _ (by rw [HVS.out]; exact vs_at hj)⟩
          exact h.below ((Below.refl _ _).alloc (Nat.le_refl _) _)
        have ZB0 : Hid (Zer w (wb.alloc (.cells #[.int .i64 0, .int .i64 0, .int .i64 0, .int .i64 0, .int .i64 0, .int .i64 0, .int .i64 0] 47))) := HZB.out.alloc _
        have hgn : g ≠ nb := by omega
        have hnz : w.heap.size < nb := by rw [hnb]; exact HZB.out.lt
        clear hnb HGC HZB hgl hsz HLL HNN HVS HOWN HZ hni
        go_loopw [8] (fun i wr => ∃ k2 : Nat, k2 ≤ 7 ∧ i = .int .i64 k2 ∧ Hid (∀ j x, j < k2 → (spl s)[j]? = some x → numB x = true) ∧ Hid (Arr wr nb (arrV (at7 (spl s)) k2)) ∧ Hid (Wds wr g (spl s)) ∧ Hid (Zer w wr)) (fun i _ => 7 - (RowKit.intOf i).toNat)
        case atStart => exact ⟨0, by omega, rfl, fun j x h _ => absurd h (Nat.not_lt_zero _), A0.out, W0.out, ZB0.out⟩
        case round =>
          obtain ⟨k2, hk2, rfl, HNB, HA, HWD, HZR⟩ := hrel
          by_cases hlt2 : k2 < 7
          · obtain ⟨x, hx⟩ : ∃ x, (spl s)[k2]? = some x := ⟨(spl s)[k2]'(by have := HNL.out; omega), List.getElem?_eq_getElem _⟩
            have hcell := HWD.out.2 k2 x hx
            have hxl : x.length ≤ 1000 := by
              have h1 := spl_mem s x (List.mem_of_getElem? hx)
              have h2 := HSL.out
              omega
            have NUM := number_any x hxl wr
            have hat7 : at7 (spl s) k2 = nval x := by unfold at7; rw [List.getD_eq_getElem?_getD, hx]; rfl
            have HXX : Hid ((spl s)[k2]? = some x) := hx
            have HAT7 : Hid (at7 (spl s) k2 = nval x) := hat7
            have hk2n : k2 < n := by omega
            clear hx hxl hat7
            cases hnum : numB x with
            | false =>
              have HR2 : Hid (R = (zc, 2)) := by
                show _ = _
                rw [HR.out]
                unfold rpar
                rw [if_neg (by rw [← HNL.out]; omega), if_neg]
                · rfl
                · intro hall
                  rw [List.all_eq_true] at hall
                  have h := hall x (by
                    rw [List.mem_take_iff_getElem]
                    obtain ⟨h1, h2⟩ := List.getElem?_eq_some_iff.mp HXX.out
                    exact ⟨k2, by omega, h2⟩)
                  rw [hnum] at h
                  cases h
              unfold NumP at NUM
              rw [hnum] at NUM
              generalize bs x = X at *
              clear hnum
              go_wp2_with fail
              go_at_call 26
              refine NUM.mono ?_
              rintro e w2 ⟨⟨q, hw2⟩, v, rfl, -⟩
              have hb2 : Below wr.heap.size wr w2 := by rw [hw2]; exact drewN_below wr q
              have HZ2 : Hid (Zer w w2) := HZR.out.trans hb2
              obtain ⟨⟨z0, z1, z2, z3, z4, z5, z6, z7, z8⟩, f0, f1, f2, f3, f4, f5, f6, f7, f8⟩ := HZ2.out.blk.nine
              clear hw2 hb2 NUM hcell
              go_wp2
              exact bodyPost_ret (v := .tuple #[.agg #[.int .i64 0, .int .i64 0, .int .i64 0, .int .i64 0, .int .i64 0, .int .i64 0, .int .i64 0, .bool false, .bool false], .int .i64 2]) (by simp [results, Tryd.results18, go_sem, z0, z1, z2, z3, z4, z5, z6, z7, z8]) rfl (RdP.mk HR2.out (below_nine HZ2.out.below (Nat.le_refl _) _ _ _ _ _ _ _ _ _))
            | true =>
              have HNB2 : Hid (∀ j y, j < k2 + 1 → (spl s)[j]? = some y → numB y = true) := fun j y hj hy => by
                by_cases e : j = k2
                · subst e
                  rw [HXX.out] at hy
                  rw [← Option.some.inj hy]
                  exact hnum
                · exact HNB.out j y (by omega) hy
              unfold NumP at NUM
              rw [hnum] at NUM
              generalize bs x = X at *
              clear hnum
              go_wp2_with fail
              go_at_call 26
              refine NUM.mono ?_
              rintro e w2 ⟨⟨q, hw2⟩, v, rfl, hv⟩
              have hb2 : Below wr.heap.size wr w2 := by rw [hw2]; exact drewN_below wr q
              have HZ2 : Hid (Zer w w2) := HZR.out.trans hb2
              have HA2 : Hid (Arr w2 nb (arrV (at7 (spl s)) k2)) := HA.out.below hb2
              have HW2 : Hid (Wds w2 g (spl s)) := HWD.out.below hb2
              have HV : Hid (at7 (spl s) k2 = v) := by show _ = _; rw [HAT7.out, hv trivial]
              obtain ⟨old, hold⟩ := HA2.out.num k2 hlt2
              have hfree := HA2.out.free k2
              clear hw2 hb2 NUM hcell hv
              go_wp2
              go_roundw
              case rel =>
                refine ⟨k2 + 1, by omega, by go_num, HNB2, ?_, ?_, ?_⟩
                · have h := HA2.out.set hlt2
                  rw [HV.out] at h
                  exact h
                · exact HW2.out.set hgn _ _
                · exact Zer.of (Below.setCell HZ2.out (by show w.heap.size + 1 ≤ nb; omega) _)
              case measure => simp [RowKit.intOf]; omega
          · obtain rfl : k2 = 7 := by omega
            have hna : ((spl s).take 7).all numB = true := by
              rw [List.all_eq_true]
              intro x hx
              rw [List.mem_take_iff_getElem] at hx
              obtain ⟨j, hj, rfl⟩ := hx
              exact HNB.out j _ (by omega) (List.getElem?_eq_getElem _)
            obtain ⟨x0, x1, x2, x3, x4, x5, x6⟩ := HA.out.seven
            obtain ⟨c0, hc0⟩ : ∃ c : Cf, c = ⟨at7 (spl s) 0, at7 (spl s) 1, at7 (spl s) 2, at7 (spl s) 3, at7 (spl s) 4, at7 (spl s) 5, at7 (spl s) 6, false, false⟩ := ⟨_, rfl⟩
            have HP : Hid (rpar s = some { c0 with we := aw (spl s) west n, ca := aw (spl s) cast n }) := by
              show _ = _
              unfold rpar
              rw [if_neg (by rw [← HNL.out]; exact h7), if_pos hna, hc0, HNL.out, aw_end, aw_end]
            have e0 : at7 (spl s) 0 = c0.w := by rw [hc0]
            have e1 : at7 (spl s) 1 = c0.h := by rw [hc0]
            have e2 : at7 (spl s) 2 = c0.l := by rw [hc0]
            have e3 : at7 (spl s) 3 = c0.d := by rw [hc0]
            have e4 : at7 (spl s) 4 = c0.r := by rw [hc0]
            have e5 : at7 (spl s) 5 = c0.i := by rw [hc0]
            have e6 : at7 (spl s) 6 = c0.b := by rw [hc0]
            have e7 : c0.we = false := by rw [hc0]
            have e8 : c0.ca = false := by rw [hc0]
            rw [e0] at x0
            rw [e1] at x1
            rw [e2] at x2
            rw [e3] at x3
            rw [e4] at x4
            rw [e5] at x5
            rw [e6] at x6
            clear e0 e1 e2 e3 e4 e5 e6 hc0 hna
            obtain ⟨cw, ch, cl, cd, cr, ci, cb, we, ca⟩ := c0
            simp only at x0 x1 x2 x3 x4 x5 x6 e7 e8
            subst e7 e8
            go_wp2
            obtain ⟨wq, rfl⟩ : ∃ wq : World, wq = wr := ⟨_, rfl⟩
            obtain ⟨bk, hbk⟩ : ∃ bk, bk = wq.heap.size := ⟨_, rfl⟩
            rw [← hbk]
            have B0 : Hid (Blk (wq.alloc (.cells (cfc ⟨cw, ch, cl, cd, cr, ci, cb, false, false⟩) 23)) bk ⟨cw, ch, cl, cd, cr, ci, cb, aw (spl s) west 7, aw (spl s) cast 7⟩) := by
              rw [aw_start, aw_start, hbk]
              exact Blk.new wq _
            have W1 : Hid (Wds (wq.alloc (.cells (cfc ⟨cw, ch, cl, cd, cr, ci, cb, false, false⟩) 23)) g (spl s)) := HWD.out.below ((Below.refl _ _).alloc (Nat.le_refl _) _)
            have Z1 : Hid (Zer w (wq.alloc (.cells (cfc ⟨cw, ch, cl, cd, cr, ci, cb, false, false⟩) 23))) := HZR.out.alloc _
            have hgb : g ≠ bk := by have := HWD.out.1; omega
            have hwb : w.heap.size < bk := by rw [hbk]; exact HZR.out.lt
            clear hbk x0 x1 x2 x3 x4 x5 x6 A0 W0 ZB0 hgn hnz HNB HA HWD HZR
            simp only [cfc] at B0 W1 Z1
            go_loopw [12] (fun i wr => ∃ k3 : Nat, 7 ≤ k3 ∧ k3 ≤ n ∧ i = .int .i64 k3 ∧ Hid (Blk wr bk ⟨cw, ch, cl, cd, cr, ci, cb, aw (spl s) west k3, aw (spl s) cast k3⟩) ∧ Hid (Wds wr g (spl s)) ∧ Hid (Zer w wr)) (fun i _ => n - (RowKit.intOf i).toNat)
            case atStart => exact ⟨7, by omega, by omega, rfl, B0.out, W1.out, Z1.out⟩
            case round =>
              obtain ⟨k3, hk7, hk3, rfl, HB, HW, HZ3⟩ := hrel
              by_cases hlt3 : k3 < n
              · obtain ⟨x, hx⟩ : ∃ x, (spl s)[k3]? = some x := ⟨(spl s)[k3]'(by have := HNL.out; omega), List.getElem?_eq_getElem _⟩
                have hcell := HW.out.2 k3 x hx
                have Ew : ((bs x).toList == [119, 101, 115, 116]) = (x == west) := by rw [bs_toList]; rfl
                have Ec : ((bs x).toList == [99, 97, 115, 116]) = (x == cast) := by rw [bs_toList]; rfl
                have HAW : Hid (aw (spl s) west (k3 + 1) = (aw (spl s) west k3 || (x == west))) := aw_succ hx hk7
                have HAC : Hid (aw (spl s) cast (k3 + 1) = (aw (spl s) cast k3 || (x == cast))) := aw_succ hx hk7
                clear hx
                generalize bs x = X at *
                generalize (x == west) = b1 at *
                generalize (x == cast) = b2 at *
                generalize aw (spl s) west k3 = p1 at *
                generalize aw (spl s) cast k3 = p2 at *
                obtain ⟨⟨-, -, -, -, -, -, -, y7, y8⟩, -, -, -, -, -, -, -, g7, g8⟩ := HB.out.nine
                simp only at y7 y8
                cases p1 <;> cases p2
                all_goals
                  go_wp2
                  go_roundw
                  case rel =>
                    refine ⟨k3 + 1, by omega, by omega, by go_num, ?_, ?_, ?_⟩
                    · show Blk _ _ _
                      rw [HAW.out, HAC.out]
                      simp only [Bool.false_or, Bool.true_or]
                      exact (HB.out.seven _).eight _
                    · exact (HW.out.set hgb _ _).set hgb _ _
                    · exact Zer.of ((Below.setCell HZ3.out (by show w.heap.size + 1 ≤ bk; omega) _).setCell (by show w.heap.size + 1 ≤ bk; omega) _)
                  case measure => simp [RowKit.intOf]; omega
              · obtain rfl : k3 = n := by omega
                obtain ⟨p1, hp1⟩ : ∃ b, b = aw (spl s) west k3 := ⟨_, rfl⟩
                obtain ⟨p2, hp2⟩ : ∃ b, b = aw (spl s) cast k3 := ⟨_, rfl⟩
                rw [← hp1, ← hp2] at HB
                have hpar : rpar s = some ⟨cw, ch, cl, cd, cr, ci, cb, p1, p2⟩ := by rw [HP.out, hp1, hp2]
                clear hp1 hp2 HP
                have hin := bnd_in (rpar_bnd hpar)
                have TE := rtext_any _ hin
                have CK := rcheck_any ⟨cw, ch, cl, cd, cr, ci, cb, p1, p2⟩
                obtain ⟨⟨y0, y1, y2, y3, y4, y5, y6, y7, y8⟩, -⟩ := HB.out.nine
                simp only at y0 y1 y2 y3 y4 y5 y6 y7 y8
                by_cases ht : txt ⟨cw, ch, cl, cd, cr, ci, cb, p1, p2⟩ = s
                · have hne : ((bs (txt ⟨cw, ch, cl, cd, cr, ci, cb, p1, p2⟩)).toList == S.toList) = true := by rw [bs_toList, ht, HST.out]; simp
                  rcases chk_cases ⟨cw, ch, cl, cd, cr, ci, cb, p1, p2⟩ with hc | hc | hc
                  · have HR2 : Hid (R = (⟨cw, ch, cl, cd, cr, ci, cb, p1, p2⟩, 0)) := by show _ = _; rw [HR.out, hpar]; simp only [fin]; rw [if_pos ht, if_pos hc]
                    rw [hc] at CK
                    clear hc
                    generalize bs (txt ⟨cw, ch, cl, cd, cr, ci, cb, p1, p2⟩) = TXX at *
                    simp only [cfv, cfc] at TE CK
                    clear ht hpar hin
                    go_wp2_with fail
                    go_at_call 16
                    refine (TE _).mono ?_
                    rintro e v2 ⟨rfl, hb⟩
                    have BK2 : Hid (Blk v2 bk ⟨cw, ch, cl, cd, cr, ci, cb, p1, p2⟩) := HB.out.below hb
                    have Z2 : Hid (Zer w v2) := HZ3.out.trans hb
                    clear y0 y1 y2 y3 y4 y5 y6 y7 y8 hb TE
                    obtain ⟨⟨y0, y1, y2, y3, y4, y5, y6, y7, y8⟩, -⟩ := BK2.out.nine
                    go_wp2_with fail
                    go_at_call 12
                    refine (CK _).mono ?_
                    rintro e v3 ⟨rfl, hb⟩
                    have Z3 : Hid (Zer w v3) := Z2.out.trans hb
                    have BK3 : Hid (Blk v3 bk ⟨cw, ch, cl, cd, cr, ci, cb, p1, p2⟩) := BK2.out.below hb
                    clear y0 y1 y2 y3 y4 y5 y6 y7 y8 hb CK
                    obtain ⟨⟨y0, y1, y2, y3, y4, y5, y6, y7, y8⟩, -⟩ := BK3.out.nine
                    obtain ⟨⟨z0, z1, z2, z3, z4, z5, z6, z7, z8⟩, f0, f1, f2, f3, f4, f5, f6, f7, f8⟩ := Z3.out.blk.nine
                    go_wp2
                    exact bodyPost_ret (v := .tuple #[.agg #[.int .i64 cw, .int .i64 ch, .int .i64 cl, .int .i64 cd, .int .i64 cr, .int .i64 ci, .int .i64 cb, .bool p1, .bool p2], .int .i64 0]) (by simp [results, Tryd.results18, go_sem, z0, z1, z2, z3, z4, z5, z6, z7, z8]) rfl (RdP.mk HR2.out (below_nine Z3.out.below (Nat.le_refl _) _ _ _ _ _ _ _ _ _))
                  · have HR2 : Hid (R = (zc, 4)) := by show _ = _; rw [HR.out, hpar]; simp only [fin]; rw [if_pos ht, if_neg (by rw [hc]; decide), hc]
                    rw [hc] at CK
                    clear hc
                    generalize bs (txt ⟨cw, ch, cl, cd, cr, ci, cb, p1, p2⟩) = TXX at *
                    simp only [cfv, cfc] at TE CK
                    clear ht hpar hin
                    go_wp2_with fail
                    go_at_call 16
                    refine (TE _).mono ?_
                    rintro e v2 ⟨rfl, hb⟩
                    have BK2 : Hid (Blk v2 bk ⟨cw, ch, cl, cd, cr, ci, cb, p1, p2⟩) := HB.out.below hb
                    have Z2 : Hid (Zer w v2) := HZ3.out.trans hb
                    clear y0 y1 y2 y3 y4 y5 y6 y7 y8 hb TE
                    obtain ⟨⟨y0, y1, y2, y3, y4, y5, y6, y7, y8⟩, -⟩ := BK2.out.nine
                    go_wp2_with fail
                    go_at_call 12
                    refine (CK _).mono ?_
                    rintro e v3 ⟨rfl, hb⟩
                    have Z3 : Hid (Zer w v3) := Z2.out.trans hb
                    have BK3 : Hid (Blk v3 bk ⟨cw, ch, cl, cd, cr, ci, cb, p1, p2⟩) := BK2.out.below hb
                    clear y0 y1 y2 y3 y4 y5 y6 y7 y8 hb CK
                    obtain ⟨⟨y0, y1, y2, y3, y4, y5, y6, y7, y8⟩, -⟩ := BK3.out.nine
                    obtain ⟨⟨z0, z1, z2, z3, z4, z5, z6, z7, z8⟩, f0, f1, f2, f3, f4, f5, f6, f7, f8⟩ := Z3.out.blk.nine
                    go_wp2
                    exact bodyPost_ret (v := .tuple #[.agg #[.int .i64 0, .int .i64 0, .int .i64 0, .int .i64 0, .int .i64 0, .int .i64 0, .int .i64 0, .bool false, .bool false], .int .i64 4]) (by simp [results, Tryd.results18, go_sem, z0, z1, z2, z3, z4, z5, z6, z7, z8]) rfl (RdP.mk HR2.out (below_nine Z3.out.below (Nat.le_refl _) _ _ _ _ _ _ _ _ _))
                  · have HR2 : Hid (R = (zc, 10)) := by show _ = _; rw [HR.out, hpar]; simp only [fin]; rw [if_pos ht, if_neg (by rw [hc]; decide), hc]
                    rw [hc] at CK
                    clear hc
                    generalize bs (txt ⟨cw, ch, cl, cd, cr, ci, cb, p1, p2⟩) = TXX at *
                    simp only [cfv, cfc] at TE CK
                    clear ht hpar hin
                    go_wp2_with fail
                    go_at_call 16
                    refine (TE _).mono ?_
                    rintro e v2 ⟨rfl, hb⟩
                    have BK2 : Hid (Blk v2 bk ⟨cw, ch, cl, cd, cr, ci, cb, p1, p2⟩) := HB.out.below hb
                    have Z2 : Hid (Zer w v2) := HZ3.out.trans hb
                    clear y0 y1 y2 y3 y4 y5 y6 y7 y8 hb TE
                    obtain ⟨⟨y0, y1, y2, y3, y4, y5, y6, y7, y8⟩, -⟩ := BK2.out.nine
                    go_wp2_with fail
                    go_at_call 12
                    refine (CK _).mono ?_
                    rintro e v3 ⟨rfl, hb⟩
                    have Z3 : Hid (Zer w v3) := Z2.out.trans hb
                    have BK3 : Hid (Blk v3 bk ⟨cw, ch, cl, cd, cr, ci, cb, p1, p2⟩) := BK2.out.below hb
                    clear y0 y1 y2 y3 y4 y5 y6 y7 y8 hb CK
                    obtain ⟨⟨y0, y1, y2, y3, y4, y5, y6, y7, y8⟩, -⟩ := BK3.out.nine
                    obtain ⟨⟨z0, z1, z2, z3, z4, z5, z6, z7, z8⟩, f0, f1, f2, f3, f4, f5, f6, f7, f8⟩ := Z3.out.blk.nine
                    go_wp2
                    exact bodyPost_ret (v := .tuple #[.agg #[.int .i64 0, .int .i64 0, .int .i64 0, .int .i64 0, .int .i64 0, .int .i64 0, .int .i64 0, .bool false, .bool false], .int .i64 10]) (by simp [results, Tryd.results18, go_sem, z0, z1, z2, z3, z4, z5, z6, z7, z8]) rfl (RdP.mk HR2.out (below_nine Z3.out.below (Nat.le_refl _) _ _ _ _ _ _ _ _ _))
                · have hne : ((bs (txt ⟨cw, ch, cl, cd, cr, ci, cb, p1, p2⟩)).toList == S.toList) = false := by rw [bs_toList, HST.out]; simpa using ht
                  have HR2 : Hid (R = (zc, 2)) := by show _ = _; rw [HR.out, hpar]; simp only [fin]; rw [if_neg ht]
                  generalize bs (txt ⟨cw, ch, cl, cd, cr, ci, cb, p1, p2⟩) = TXX at *
                  simp only [cfv, cfc] at TE CK
                  clear ht hpar hin
                  go_wp2_with fail
                  go_at_call 16
                  refine (TE _).mono ?_
                  rintro e v2 ⟨rfl, hb⟩
                  have BK2 : Hid (Blk v2 bk ⟨cw, ch, cl, cd, cr, ci, cb, p1, p2⟩) := HB.out.below hb
                  have Z2 : Hid (Zer w v2) := HZ3.out.trans hb
                  clear y0 y1 y2 y3 y4 y5 y6 y7 y8 hb TE
                  obtain ⟨⟨z0, z1, z2, z3, z4, z5, z6, z7, z8⟩, f0, f1, f2, f3, f4, f5, f6, f7, f8⟩ := Z2.out.blk.nine
                  go_wp2
                  exact bodyPost_ret (v := .tuple #[.agg #[.int .i64 0, .int .i64 0, .int .i64 0, .int .i64 0, .int .i64 0, .int .i64 0, .int .i64 0, .bool false, .bool false], .int .i64 2]) (by simp [results, Tryd.results18, go_sem, z0, z1, z2, z3, z4, z5, z6, z7, z8]) rfl (RdP.mk HR2.out (below_nine Z2.out.below (Nat.le_refl _) _ _ _ _ _ _ _ _ _))
end Go.Proofs.YtkebplapjkefiaaDoor
