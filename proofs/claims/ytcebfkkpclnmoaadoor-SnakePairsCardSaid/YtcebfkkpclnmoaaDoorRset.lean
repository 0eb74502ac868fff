/-
  The walk of the document's Set. (Written by gen_rset.py.)
-/
import Derived.Test.YtcebfkkpclnmoaaDoorRway
import Derived.Test.YtcebfkkpclnmoaaDoorNodeS
namespace Go.Proofs.YtcebfkkpclnmoaaDoor
open Go.RowKit

/-- Nodes that are there, each once, made of any numbers. -/
def setN (c : Cf) (l : List Int) : List Int := l.foldl (fun out x => if nde c x ∈ out then out else out ++ [nde c x]) []
theorem setN_snoc (c : Cf) (l : List Int) (x : Int) : setN c (l ++ [x]) = if nde c x ∈ setN c l then setN c l else setN c l ++ [nde c x] := by
  unfold setN
  rw [List.foldl_append]
  rfl
theorem snoc_ind {Q : List Int → Prop} (h0 : Q []) (h1 : ∀ l x, Q l → Q (l ++ [x])) (l : List Int) : Q l := by
  have h : ∀ k (l : List Int), l.length = k → Q l := by
    intro k
    induction k with
    | zero => intro l h; rw [List.eq_nil_of_length_eq_zero h]; exact h0
    | succ k ih =>
      intro l h
      have hne : l ≠ [] := fun e => by rw [e] at h; cases h
      rw [← List.dropLast_concat_getLast hne]
      exact h1 _ _ (ih _ (by rw [List.length_dropLast]; omega))
  exact h _ l rfl
theorem setN_is {c : Cf} (h : chk c = 0) (l : List Int) : ∀ n ∈ setN c l, isN c n = true := by
  refine snoc_ind (Q := fun l => ∀ n ∈ setN c l, isN c n = true) (fun n hn => (by cases hn)) ?_ l
  intro l x ih n hn
  rw [setN_snoc] at hn
  split at hn
  · exact ih n hn
  · rcases List.mem_append.1 hn with hn | hn
    · exact ih n hn
    · rw [List.mem_singleton] at hn
      rw [hn]
      exact nde_in h x
theorem setN_nodup (c : Cf) (l : List Int) : (setN c l).Nodup := by
  refine snoc_ind (Q := fun l => (setN c l).Nodup) List.nodup_nil ?_ l
  intro l x ih
  rw [setN_snoc]
  split
  · exact ih
  · rename_i hx
    refine List.nodup_append.2 ⟨ih, List.pairwise_singleton _ _, ?_⟩
    intro a ha b hb e
    rw [List.mem_singleton] at hb
    exact hx (by rw [← hb, ← e]; exact ha)
theorem setN_len (c : Cf) (l : List Int) : (setN c l).length ≤ l.length := by
  refine snoc_ind (Q := fun l => (setN c l).length ≤ l.length) (Nat.le_refl _) ?_ l
  intro l x ih
  rw [setN_snoc]
  split
  · rw [List.length_append]; omega
  · rw [List.length_append, List.length_append]
    simpa using ih
theorem set_inv (c : Cf) (ls : List Int) (m : Nat) : ∃ S : Nat → List Int, S 0 = [] ∧ (∀ i, (S i).length ≤ i) ∧
    (∀ i, i < ls.length → nde c (ls.getD i 0) ∈ S i → S (i + 1) = S i) ∧ (∀ i, i < ls.length → nde c (ls.getD i 0) ∉ S i → S (i + 1) = S i ++ [nde c (ls.getD i 0)]) ∧
    (∀ i, i ≤ ls.length → i ≤ m → ¬ (i < ls.length ∧ i < m) → S i = setN c (ls.take m)) := by
  have tk : ∀ k, k < ls.length → ls.take (k + 1) = ls.take k ++ [ls.getD k 0] := by
    intro k hk
    rw [getD_at hk, List.take_succ_eq_append_getElem hk]
  refine ⟨fun i => setN c (ls.take i), rfl, ?_, ?_, ?_, ?_⟩
  · intro i
    have := setN_len c (ls.take i)
    rw [List.length_take] at this
    dsimp only
    omega
  · intro i hi h
    dsimp only at h ⊢
    rw [tk i hi, setN_snoc, if_pos h]
  · intro i hi h
    dsimp only at h ⊢
    rw [tk i hi, setN_snoc, if_neg h]
  · intro i h1 h2 h3
    dsimp only
    by_cases e : i = m
    · rw [e]
    · have : i = ls.length := by omega
      rw [this, List.take_length, List.take_of_length_le (by omega)]

set_option maxRecDepth 100000 in
set_option maxHeartbeats 2000000 in
theorem rset_any (c : Cf) (hc : chk c = 0) (s : Option Addr) (ls : List Int) (cap m : Nat) (w : World) (hm : m ≤ 100) (hlm : ls.length ≤ maxLen) (hr : RdA w s (vi ls)) :
    Calls Tryd.prog 27 #[cfv c, .slice s ls.length cap, .int .i64 m] w (Row w (setN c (ls.take m))) := by
  obtain ⟨i0, ki, hz0, hz1, hz2⟩ := info_parts Tryd.info3
  have A0 : Hid (At w c (w.alloc (.cells (cfc c) 23))) := At.start w c
  have HR : Hid (RdA w s (vi ls)) := hr
  have NO := fun x => node_any c hc x
  obtain ⟨S, I0, I1, I2, I3, I4⟩ := set_inv c ls m
  have hlm2 : (ls.length : Int) ≤ 9223372036854775807 := by unfold maxLen at hlm; omega
  clear hr hc hlm
  generalize setN c (ls.take m) = R at *
  generalize nde c = NF at *
  obtain ⟨n, hn⟩ : ∃ n, ls.length = n := ⟨_, rfl⟩
  have HN : Hid (ls.length = n) := hn
  rw [hn] at I2 I3 I4 hlm2 ⊢
  have HI0 : Hid (S 0 = []) := I0
  have HI1 : Hid (∀ i, (S i).length ≤ i) := I1
  have HI2 : Hid (∀ i, i < n → NF (ls.getD i 0) ∈ S i → S (i + 1) = S i) := I2
  have HI3 : Hid (∀ i, i < n → NF (ls.getD i 0) ∉ S i → S (i + 1) = S i ++ [NF (ls.getD i 0)]) := I3
  have HI4 : Hid (∀ i, i ≤ n → i ≤ m → ¬ (i < n ∧ i < m) → S i = R) := I4
  clear I0 I1 I2 I3 I4 hn
  obtain ⟨cw, ch, cl, cd, cr, ci, cb, we, ca⟩ := c
  simp only [cfv, cfc] at *
  go_enter Tryd.func27, Tryd.ntmps27
  go_wp2_with fail
  go_loopw [7, 8] (fun v i wr => ∃ k : Nat, k ≤ n ∧ k ≤ m ∧ i = .int .i64 k ∧ Own 3 wr (w.heap.size + 1) v (vi (S k)) ∧ At w ⟨cw, ch, cl, cd, cr, ci, cb, we, ca⟩ wr) (fun _ i _ => m - (RowKit.intOf i).toNat)
  case atStart => exact ⟨0, Nat.zero_le _, Nat.zero_le _, rfl, by rw [HI0.out]; exact Own.nil _ _ _, A0.out⟩
  case round =>
    obtain ⟨k, hk, hkm, rfl, own, hat⟩ := hrel
    have HAT : Hid (At w ⟨cw, ch, cl, cd, cr, ci, cb, we, ca⟩ wr) := hat
    have HOWN : Hid (Own 3 wr (w.heap.size + 1) _ (vi (S k))) := own
    clear own hat A0
    by_cases hlt : k < n
    · have hltz : (k : Int) < (n : Int) := by omega
      by_cases hmt : k < m
      · have hmtz : (k : Int) < (m : Int) := by omega
        have hk0 : (0 : Int) ≤ k := by omega
        have hv := vi_at (l := ls) (k := k) (by rw [HN.out]; exact hlt)
        obtain ⟨g, o, rfl, hg, c0⟩ := HR.out k _ hv
        have j2 := HI2.out k hlt
        have j3 := HI3.out k hlt
        have hsl := HI1.out k
        have K2 := NO (ls.getD k 0)
        clear hv NO
        generalize NF (ls.getD k 0) = q at *
        generalize ls.getD k 0 = z at *
        have Hj2 : Hid (q ∈ S k → S (k + 1) = S k) := j2
        have Hj3 : Hid (q ∉ S k → S (k + 1) = S k ++ [q]) := j3
        clear j2 j3
        have D1 := HAT.out.drew
        have SD := D1.cells10 hg c0
        go_wp2_with fail
        go_region_held3 (fun v => v.cell? ⟨w.heap.size, 0, none⟩ = some (.int .i64 cw) ∧ v.cell? ⟨w.heap.size, 1, none⟩ = some (.int .i64 ch) ∧ v.cell? ⟨w.heap.size, 2, none⟩ = some (.int .i64 cl) ∧ v.cell? ⟨w.heap.size, 3, none⟩ = some (.int .i64 cd) ∧ v.cell? ⟨w.heap.size, 4, none⟩ = some (.int .i64 cr) ∧ v.cell? ⟨w.heap.size, 5, none⟩ = some (.int .i64 ci) ∧ v.cell? ⟨w.heap.size, 6, none⟩ = some (.int .i64 cb) ∧ v.cell? ⟨w.heap.size, 7, none⟩ = some (.bool we) ∧ v.cell? ⟨w.heap.size, 8, none⟩ = some (.bool ca) ∧ v.cell? ⟨g, o + k, none⟩ = some (.int .i64 z))
          (first | exact Sa | exact SD | go_keep)
          (first
            | (go_at_call 25; (with_reducible refine (K2 _).mono ?_); rintro e va ⟨rfl, hbva⟩; have Ta := D1.trans hbva; have Sa := Ta.cells10 hg c0))
        have HAT1 : Hid (At w ⟨cw, ch, cl, cd, cr, ci, cb, we, ca⟩ va) := Ta
        have HOWN1 : Hid (Own 3 va (w.heap.size + 1) _ (vi (S k))) := HOWN.out.below ((below_drew wr).trans hbva)
        obtain ⟨al, xl, rfl, _, _, rl⟩ := HOWN1.out.rd
        rw [vi_len]
        obtain ⟨X, hX⟩ : ∃ X, S k = X := ⟨_, rfl⟩
        rw [vi_len] at HOWN1
        rw [hX] at HOWN1 rl Hj2 Hj3 hsl ⊢
        have HX : Hid (S k = X) := hX
        clear hX hbva HOWN Ta Sa D1 SD K2 HAT
        obtain ⟨p, hp⟩ : ∃ p, X.length = p := ⟨_, rfl⟩
        have HP : Hid (X.length = p) := hp
        have HRL : Hid (Rd va al (vi X)) := rl
        rw [hp] at HOWN1 hsl ⊢
        clear hp rl
        go_wp2_with fail
        go_loopw [10, 11] (fun h i wi => ∃ (b : Bool) (j : Nat), h = .bool b ∧ j ≤ p ∧ i = .int .i64 j ∧ Hid (b = true ↔ q ∈ X.take j) ∧ wi = va) (fun _ i _ => p - (RowKit.intOf i).toNat)
        case atStart => exact ⟨false, 0, rfl, Nat.zero_le _, rfl, (show _ ↔ _ by simp), rfl⟩
        case round =>
          obtain ⟨b, j, rfl, hj, rfl, HB, rfl⟩ := hrel
          by_cases hjp : j < p
          · have hjz : (j : Int) < (p : Int) := by omega
            have hj0 : (0 : Int) ≤ j := by omega
            have hv := vi_at (l := X) (k := j) (by rw [HP.out]; exact hjp)
            obtain ⟨g', e1, hg', c1⟩ := HRL.out j _ hv
            subst e1
            have HT : Hid (X.take (j + 1) = X.take j ++ [X.getD j 0]) := by
              have hjX : j < X.length := by rw [HP.out]; exact hjp
              show X.take (j + 1) = _
              rw [getD_at hjX, List.take_succ_eq_append_getElem hjX]
            clear hv hg'
            obtain ⟨y, hy⟩ : ∃ y, X.getD j 0 = y := ⟨_, rfl⟩
            rw [hy] at c1 HT
            clear hy
            have HB2 : Hid ((b || (y == q)) = true ↔ q ∈ X.take (j + 1)) := by
              show _ ↔ _
              rw [HT.out, Bool.or_eq_true, List.mem_append, List.mem_singleton, beq_iff_eq, HB.out]
              constructor
              · rintro (h | h)
                · exact Or.inl h
                · exact Or.inr h.symm
              · rintro (h | h)
                · exact Or.inl h
                · exact Or.inr h.symm
            clear HB HT
            cases b
            all_goals
              go_wp2
              go_roundw
              case rel => exact ⟨_, j + 1, rfl, by omega, by go_num, by simpa [Hid] using HB2, trivial⟩
              case measure => simp [RowKit.intOf]; omega
          · obtain rfl : j = p := by omega
            have hjz : ¬ (j : Int) < j := by omega
            have hf : X.take j = X := by rw [← HP.out]; exact List.take_length
            rw [hf] at HB
            have HL2 : Hid (X.length = j) := HP.out
            have hlX : (vi X).length ≤ 1000000 := by rw [vi_len, HL2.out]; omega
            cases b with
            | true =>
              have e := Hj2.out (HB.out.1 rfl)
              have HE : Hid (S (k + 1) = X) := e
              clear e hf HB HRL Hj2 Hj3
              go_wp2
              go_roundw
              case rel => exact ⟨k + 1, by omega, by omega, by go_num, by rw [HE.out]; exact HOWN1.out, HAT1.out⟩
              case measure => simp [RowKit.intOf]; omega
            | false =>
              have e := Hj3.out (fun h => by have := HB.out.2 h; cases this)
              have HE : Hid (S (k + 1) = X ++ [q]) := e
              have own : Own 3 wr (w.heap.size + 1) _ (vi X) := HOWN1.out
              have hsa : w.heap.size + 1 ≤ wr.heap.size := HAT1.out.size
              clear e hf HB HRL Hj2 Hj3 HOWN1
              go_wp2_with (at_builtin; refine wpList_app_one rfl (.tmp 46) (.tmp 48) 31 3 i0 (.int .i64 0) 8 rfl Tryd.underlying31 ki hz0 hz1 hz2 rfl (by decide) (w.heap.size + 1) wr _ _ (.int .i64 q) rfl own rfl rfl hlX hsa ?_; intro v1' wb o1 kb; have ab : Hid (At w ⟨cw, ch, cl, cd, cr, ci, cb, we, ca⟩ wb) := At.of (kb.2.1 _ HAT1.out); clear kb own)
              rw [vi_snoc] at o1
              go_roundw
              case rel => exact ⟨k + 1, by omega, by omega, by go_num, by rw [HE.out]; exact o1, ab.out⟩
              case measure => simp [RowKit.intOf]; omega
      · have hmtz : ¬ (k : Int) < (m : Int) := by omega
        have e := HI4.out k hk hkm (by omega)
        have HE : Hid (S k = R) := e
        clear e NO
        go_wp2
        go_ret
        exact Row.mk (by rw [← HE.out]; exact HOWN.out.mono (by omega)) HAT.out.below
    · have hltz : ¬ (k : Int) < (n : Int) := by omega
      have e := HI4.out k hk hkm (by omega)
      have HE : Hid (S k = R) := e
      clear e NO
      go_wp2
      go_ret
      exact Row.mk (by rw [← HE.out]; exact HOWN.out.mono (by omega)) HAT.out.below
end Go.Proofs.YtcebfkkpclnmoaaDoor
