/-
  How a config is read of a text: the program's way and the document's own, and that both tell the same. No program in it.
-/
import Derived.Test.YtkebplapjkefiaaDoorTxt
import Derived.Test.YtkebplapjkefiaaDoorClass
namespace Go.Proofs.YtkebplapjkefiaaDoor
open Go.Lib

def west : L := [119, 101, 115, 116]
def cast : L := [99, 97, 115, 116]
def zc : Cf := ⟨0, 0, 0, 0, 0, 0, 0, false, false⟩
def tailW (c : Cf) : L := if c.we = true then 32 :: west else []
def tailC (c : Cf) : L := if c.ca = true then 32 :: cast else []
def txt (c : Cf) : L := itoa c.w ++ 120 :: (itoa c.h ++ 32 :: (itoa c.l ++ 32 :: (itoa c.d ++ 32 :: (itoa c.r ++ 32 :: (itoa c.i ++ 32 :: (itoa c.b ++ (tailW c ++ tailC c)))))))

def bnd (c : Cf) : Prop := short c.w ∧ short c.h ∧ short c.l ∧ short c.d ∧ short c.r ∧ short c.i ∧ short c.b

/-! ### The program's way -/
def rin (x : UInt8) : Nat → L → Option (List Int × L)
  | 0, s => some ([], s)
  | k + 1, s =>
    if 9 < (bare (cut s [x]).1).length then none else
    match atoi (cut s [x]).1 with
    | none => none
    | some n => (rin x k (cut s [x]).2.1).map fun p => (n :: p.1, p.2)

theorem rin_app (x : UInt8) (k : Nat) (n : Int) (r : L) (h : short n) (hx : isNum x → False) : rin x (k + 1) (itoa n ++ x :: r) = (rin x k r).map fun p => (n :: p.1, p.2) := by
  have e := cut_app (itoa n) r x (fun hm => hx (itoa_num n x hm))
  have hs := bare_short n h
  simp only [rin, e, atoi_itoa]
  rw [if_neg (by omega)]
theorem rin_end (x : UInt8) (k : Nat) (n : Int) (h : short n) (hx : isNum x → False) : rin x (k + 1) (itoa n) = (rin x k []).map fun p => (n :: p.1, p.2) := by
  have e := cut_no (itoa n) x (fun hm => hx (itoa_num n x hm))
  have hs := bare_short n h
  simp only [rin, e, atoi_itoa]
  rw [if_neg (by omega)]
theorem rin_zero (x : UInt8) (s : L) : rin x 0 s = some ([], s) := rfl
theorem rin_some {x : UInt8} : ∀ {k : Nat} {s : L} {ns : List Int} {r : L}, rin x k s = some (ns, r) → ns.length = k ∧ ∀ n ∈ ns, short n
  | 0, s, ns, r, h => by
    simp only [rin, Option.some.injEq, Prod.mk.injEq] at h
    obtain ⟨rfl, rfl⟩ := h
    simp
  | k + 1, s, ns, r, h => by
    simp only [rin] at h
    split at h
    · cases h
    · rename_i hl
      split at h
      · cases h
      · rename_i n hn
        cases hr : rin x k (cut s [x]).2.1 with
        | none => rw [hr] at h; cases h
        | some p =>
          rw [hr] at h
          simp only [Option.map_some, Option.some.injEq, Prod.mk.injEq] at h
          obtain ⟨rfl, rfl⟩ := h
          obtain ⟨h1, h2⟩ := rin_some (ns := p.1) (r := p.2) hr
          refine ⟨by simp [h1], fun m hm => ?_⟩
          rw [List.mem_cons] at hm
          rcases hm with rfl | hm
          · exact atoi_short hn (by omega)
          · exact h2 m hm

def par (s : L) : Option Cf :=
  match rin 120 1 s with
  | some ([a], r) => match rin 32 6 r with
    | some ([b, c, d, e, f, g], t) => some ⟨a, b, c, d, e, f, g, hasPrefix t west, hasSuffix t cast⟩
    | _ => none
  | _ => none

theorem x_no : isNum 120 → False := by rintro (h | h) <;> revert h <;> decide
theorem b_no : isNum 32 → False := by rintro (h | h) <;> revert h <;> decide

theorem rin_last (c : Cf) (h : short c.b) : ∃ t, rin 32 1 (itoa c.b ++ (tailW c ++ tailC c)) = some ([c.b], t) ∧ hasPrefix t west = c.we ∧ hasSuffix t cast = c.ca := by
  unfold tailW tailC
  cases hw : c.we <;> cases hc : c.ca
  · refine ⟨[], ?_, by decide, by decide⟩
    simp only [Bool.false_eq_true, if_false, List.append_nil]
    rw [rin_end 32 0 c.b h b_no]
    rfl
  · refine ⟨cast, ?_, by decide, by decide⟩
    simp only [Bool.false_eq_true, if_false, if_true, List.nil_append]
    rw [rin_app 32 0 c.b _ h b_no]
    rfl
  · refine ⟨west, ?_, by decide, by decide⟩
    simp only [Bool.false_eq_true, if_false, if_true, List.append_nil]
    rw [rin_app 32 0 c.b _ h b_no]
    rfl
  · refine ⟨west ++ 32 :: cast, ?_, by decide, by decide⟩
    simp only [if_true, List.cons_append]
    rw [rin_app 32 0 c.b _ h b_no]
    rfl

theorem par_txt (c : Cf) (h : bnd c) : par (txt c) = some c := by
  obtain ⟨h1, h2, h3, h4, h5, h6, h7⟩ := h
  obtain ⟨t, e, hw, hc⟩ := rin_last c h7
  unfold par txt
  rw [rin_app 120 0 c.w _ h1 x_no, rin_zero]
  simp only [Option.map_some]
  rw [rin_app 32 5 c.h _ h2 b_no, rin_app 32 4 c.l _ h3 b_no, rin_app 32 3 c.d _ h4 b_no, rin_app 32 2 c.r _ h5 b_no, rin_app 32 1 c.i _ h6 b_no, e]
  simp only [Option.map_some, hw, hc]

theorem par_bnd {s : L} {c : Cf} (h : par s = some c) : bnd c := by
  unfold par at h
  split at h
  · rename_i a r h1
    split at h
    · rename_i b c' d e f g t h2
      have k1 := (rin_some h1).2
      have k2 := (rin_some h2).2
      simp only [Option.some.injEq] at h
      subst h
      exact ⟨k1 _ (by simp), k2 _ (by simp), k2 _ (by simp), k2 _ (by simp), k2 _ (by simp), k2 _ (by simp), k2 _ (by simp)⟩
    · cases h
  · cases h

/-! ### The document's own way -/
def step (st : List L × L) (b : UInt8) : List L × L := if b = 32 ∨ (b = 120 ∧ st.1 = []) then (st.1 ++ [st.2], []) else (st.1, st.2 ++ [b])
def spl (s : L) : List L := (s.foldl step ([], [])).1 ++ [(s.foldl step ([], [])).2]
def numB (s : L) : Bool := match atoi s with
  | some n => decide (short n) && (itoa n == s)
  | none => false
def nval (s : L) : Int := (atoi s).getD 0
def at7 (ws : List L) (i : Nat) : Int := nval (ws.getD i [])
def rpar (s : L) : Option Cf :=
  if (spl s).length < 7 then none else
  if ((spl s).take 7).all numB = true then
    some ⟨at7 (spl s) 0, at7 (spl s) 1, at7 (spl s) 2, at7 (spl s) 3, at7 (spl s) 4, at7 (spl s) 5, at7 (spl s) 6, ((spl s).drop 7).any (· == west), ((spl s).drop 7).any (· == cast)⟩
  else none

theorem fold_word : ∀ (a : L) (ws : List L) (u : L), (∀ b ∈ a, b ≠ 32) → (ws = [] → ∀ b ∈ a, b ≠ 120) → a.foldl step (ws, u) = (ws, u ++ a)
  | [], ws, u, _, _ => by simp
  | b :: a, ws, u, h1, h2 => by
    have e : step (ws, u) b = (ws, u ++ [b]) := by
      unfold step
      rw [if_neg]
      rintro (rfl | ⟨rfl, h⟩)
      · exact h1 _ (by simp) rfl
      · exact h2 h _ (by simp) rfl
    rw [List.foldl_cons, e, fold_word a ws _ (fun b hb => h1 b (by simp [hb])) (fun h b hb => h2 h b (by simp [hb]))]
    simp
theorem fold_num (n : Int) (r : L) (x : UInt8) (ws : List L) (hx : x = 32 ∨ (x = 120 ∧ ws = [])) : (itoa n ++ x :: r).foldl step (ws, []) = r.foldl step (ws ++ [itoa n], []) := by
  rw [List.foldl_append, fold_word (itoa n) ws [] (fun b hb => (isNum_x (itoa_num n b hb)).2) (fun _ b hb => (isNum_x (itoa_num n b hb)).1)]
  simp only [List.nil_append, List.foldl_cons]
  congr 1
  unfold step
  rw [if_pos hx]
theorem fold_last (n : Int) (ws : List L) : (itoa n).foldl step (ws, []) = (ws, itoa n) := by
  rw [fold_word (itoa n) ws [] (fun b hb => (isNum_x (itoa_num n b hb)).2) (fun _ b hb => (isNum_x (itoa_num n b hb)).1)]
  rfl
theorem fold_tail (c : Cf) (n : Int) (ws : List L) : ((itoa n ++ (tailW c ++ tailC c)).foldl step (ws, [])).1 ++ [((itoa n ++ (tailW c ++ tailC c)).foldl step (ws, [])).2] = ws ++ ([itoa n] ++ ((if c.we = true then [west] else []) ++ (if c.ca = true then [cast] else []))) := by
  have W : ∀ vs : List L, vs ≠ [] → west.foldl step (vs, []) = (vs, west) := fun vs hv => by
    rw [fold_word west vs [] (by decide) (fun h => absurd h hv)]
    rfl
  have C : ∀ vs : List L, vs ≠ [] → cast.foldl step (vs, []) = (vs, cast) := fun vs hv => by
    rw [fold_word cast vs [] (by decide) (fun h => absurd h hv)]
    rfl
  unfold tailW tailC
  cases c.we <;> cases c.ca
  · simp only [Bool.false_eq_true, if_false, List.append_nil, fold_last]
  · simp only [Bool.false_eq_true, if_false, if_true, List.nil_append]
    rw [fold_num n cast 32 ws (Or.inl rfl), C _ (by simp)]
    simp
  · simp only [Bool.false_eq_true, if_false, if_true, List.append_nil]
    rw [fold_num n west 32 ws (Or.inl rfl), W _ (by simp)]
    simp
  · simp only [if_true, List.cons_append]
    rw [fold_num n _ 32 ws (Or.inl rfl), List.foldl_append, W _ (by simp), List.foldl_cons]
    have e : step (ws ++ [itoa n], west) 32 = (ws ++ [itoa n] ++ [west], []) := by
      unfold step
      rw [if_pos (Or.inl rfl)]
    rw [e, C _ (by simp)]
    simp

theorem spl_txt (c : Cf) : spl (txt c) = [itoa c.w, itoa c.h, itoa c.l, itoa c.d, itoa c.r, itoa c.i, itoa c.b] ++ ((if c.we = true then [west] else []) ++ (if c.ca = true then [cast] else [])) := by
  unfold spl txt
  rw [fold_num c.w _ 120 [] (Or.inr ⟨rfl, rfl⟩), fold_num c.h _ 32 _ (Or.inl rfl), fold_num c.l _ 32 _ (Or.inl rfl), fold_num c.d _ 32 _ (Or.inl rfl), fold_num c.r _ 32 _ (Or.inl rfl), fold_num c.i _ 32 _ (Or.inl rfl), fold_tail c c.b _]
  rfl

theorem numB_itoa (n : Int) (h : short n) : numB (itoa n) = true := by
  unfold numB
  rw [atoi_itoa]
  simp [h]
theorem numB_of {s : L} (h : numB s = true) : itoa (nval s) = s ∧ short (nval s) := by
  unfold numB at h
  unfold nval
  cases ha : atoi s with
  | none => rw [ha] at h; cases h
  | some n =>
    rw [ha] at h
    simp at h
    exact ⟨h.2, h.1⟩
theorem nval_itoa (n : Int) : nval (itoa n) = n := by unfold nval; rw [atoi_itoa]; rfl

theorem rpar_txt (c : Cf) (h : bnd c) : rpar (txt c) = some c := by
  obtain ⟨h1, h2, h3, h4, h5, h6, h7⟩ := h
  unfold rpar
  rw [spl_txt]
  rw [if_neg (by simp)]
  have e : (([itoa c.w, itoa c.h, itoa c.l, itoa c.d, itoa c.r, itoa c.i, itoa c.b] ++ ((if c.we = true then [west] else []) ++ (if c.ca = true then [cast] else []))).take 7).all numB = true := by
    simp [numB_itoa, h1, h2, h3, h4, h5, h6, h7]
  rw [if_pos e]
  have d : ([itoa c.w, itoa c.h, itoa c.l, itoa c.d, itoa c.r, itoa c.i, itoa c.b] ++ ((if c.we = true then [west] else []) ++ (if c.ca = true then [cast] else []))).drop 7 = ((if c.we = true then [west] else []) ++ (if c.ca = true then [cast] else [])) := rfl
  rw [d]
  obtain ⟨w, hh, l, d, r, i, b, we, ca⟩ := c
  simp only [at7, List.cons_append, List.getD_cons_zero, List.getD_cons_succ, nval_itoa]
  cases we <;> cases ca <;> rfl

theorem rpar_bnd {s : L} {c : Cf} (h : rpar s = some c) : bnd c := by
  unfold rpar at h
  split at h
  · cases h
  · rename_i hl
    split at h
    · rename_i ha
      simp only [Option.some.injEq] at h
      subst h
      rw [List.all_eq_true] at ha
      have k : ∀ i, i < 7 → short (at7 (spl s) i) := fun i hi => by
        unfold at7
        have hm : (spl s).getD i [] ∈ (spl s).take 7 := by
          rw [List.getD_eq_getElem?_getD, List.getElem?_eq_getElem (by omega)]
          rw [List.mem_take_iff_getElem]
          exact ⟨i, by omega, rfl⟩
        exact (numB_of (ha _ hm)).2
      exact ⟨k 0 (by omega), k 1 (by omega), k 2 (by omega), k 3 (by omega), k 4 (by omega), k 5 (by omega), k 6 (by omega)⟩
    · cases h

/-! ### What is told -/
def fin (s : L) (o : Option Cf) : Cf × Int :=
  match o with
  | none => (zc, 2)
  | some c => if txt c = s then (if chk c = 0 then (c, 0) else (zc, chk c)) else (zc, 2)
def rd (s : L) : Cf × Int := fin s (par s)

theorem rrd_eq (s : L) : fin s (rpar s) = rd s := by
  unfold rd
  by_cases h : ∃ c, bnd c ∧ txt c = s
  · obtain ⟨c, hb, rfl⟩ := h
    rw [par_txt c hb, rpar_txt c hb]
  · have k : ∀ o : Option Cf, (∀ c, o = some c → bnd c) → fin s o = (zc, 2) := fun o ho => by
      cases o with
      | none => rfl
      | some c =>
        simp only [fin]
        rw [if_neg (fun e => h ⟨c, ho c rfl, e⟩)]
    rw [k _ (fun c e => rpar_bnd e), k _ (fun c e => par_bnd e)]

theorem rd_ok {s : L} (h : (rd s).2 = 0) : txt (rd s).1 = s ∧ chk (rd s).1 = 0 ∧ bnd (rd s).1 := by
  unfold rd at h ⊢
  cases hp : par s with
  | none => rw [hp] at h; simp [fin] at h
  | some c =>
    rw [hp] at h
    simp only [fin] at h ⊢
    by_cases e : txt c = s
    · rw [if_pos e] at h ⊢
      by_cases k : chk c = 0
      · rw [if_pos k]
        exact ⟨e, k, par_bnd hp⟩
      · rw [if_neg k] at h
        exact absurd h k
    · rw [if_neg e] at h
      simp at h
theorem rd_no {s : L} (h : (rd s).2 ≠ 0) : (rd s).1 = zc := by
  unfold rd at h ⊢
  cases hp : par s with
  | none => rfl
  | some c =>
    rw [hp] at h
    simp only [fin] at h ⊢
    by_cases e : txt c = s
    · rw [if_pos e] at h ⊢
      by_cases k : chk c = 0
      · rw [if_pos k] at h
        exact absurd rfl h
      · rw [if_neg k]
    · rw [if_neg e]

theorem fits_bnd {c : Cf} (f : Fits c) : bnd c := by
  obtain ⟨_, _, _, _, _, _, _, _, _, _, _, _, _, _, _⟩ := f
  unfold bnd short
  omega
theorem rd_txt (c : Cf) (h : chk c = 0) : rd (txt c) = (c, 0) := by
  unfold rd
  rw [par_txt c (fits_bnd (fits_of h))]
  simp only [fin, h, if_true]
theorem txt_inj {c d : Cf} (h : txt c = txt d) : c = d := by
  have e := congrArg spl h
  rw [spl_txt, spl_txt] at e
  obtain ⟨e1, e2⟩ := List.append_inj e rfl
  simp only [List.cons.injEq, and_true] at e1
  obtain ⟨a1, a2, a3, a4, a5, a6, a7⟩ := e1
  obtain ⟨w, hh, l, d', r, i, b, we, ca⟩ := c
  obtain ⟨w2, hh2, l2, d2, r2, i2, b2, we2, ca2⟩ := d
  obtain rfl : w = w2 := itoa_inj a1
  obtain rfl : hh = hh2 := itoa_inj a2
  obtain rfl : l = l2 := itoa_inj a3
  obtain rfl : d' = d2 := itoa_inj a4
  obtain rfl : r = r2 := itoa_inj a5
  obtain rfl : i = i2 := itoa_inj a6
  obtain rfl : b = b2 := itoa_inj a7
  clear h e a1 a2 a3 a4 a5 a6 a7
  cases we <;> cases ca <;> cases we2 <;> cases ca2 <;> first | rfl | (exfalso; simp [west, cast] at e2)

/-- The text of any config: what is read of it, if anything is, is that config. -/
theorem rd_back (c : Cf) (h : (rd (txt c)).2 = 0) : (rd (txt c)).1 = c := by
  have h0 := h
  unfold rd at h ⊢
  cases hp : par (txt c) with
  | none => rw [hp] at h; simp [fin] at h
  | some d =>
    rw [hp] at h
    simp only [fin] at h ⊢
    by_cases e : txt d = txt c
    · rw [if_pos e] at h ⊢
      by_cases k : chk d = 0
      · rw [if_pos k]
        exact txt_inj e
      · rw [if_neg k] at h
        exact absurd h k
    · rw [if_neg e] at h
      simp at h
end Go.Proofs.YtkebplapjkefiaaDoor
