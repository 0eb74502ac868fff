/-
  The law of what is put in: its plain part. (Written by gen_nputs.py.)
-/
import Derived.Test.YtoejpngdkcnnhaaGreatNcSnd
namespace Go.Proofs.YtoejpngdkcnnhaaGreat
open Go.RowKit

/-- What was sent of one parcel: its lane, its words, its class. -/
structure En where
  ln : Int
  ws : List Nat
  cs : Bool
def lns (es : List En) : List (Int × List Nat) := es.map fun x => (x.ln, x.ws)
def wdl (es : List En) : List Nat := es.flatMap fun x => x.ws
def fst0 (k : Nat) : List Bool := (List.range k).map fun j => j == 0
def ftl (es : List En) : List Bool := es.flatMap fun x => fst0 x.ws.length
def csl (es : List En) : List Bool := es.flatMap fun x => List.replicate x.ws.length x.cs
/-- One of a class that is there. -/
def enOk (c : G.Cf) (x : En) : Prop := 1 ≤ x.ws.length ∧ x.ws.length ≤ 17 ∧ (G.cla c x.cs).1 ≤ x.ln ∧ x.ln < (G.cla c x.cs).1 + (G.cla c x.cs).2 ∧ 0 ≤ (G.cla c x.cs).1 ∧ (G.cla c x.cs).1 ≤ 8 ∧ 0 ≤ (G.cla c x.cs).2 ∧ (G.cla c x.cs).2 ≤ 8
theorem lns_snoc (es : List En) (x : En) : lns (es ++ [x]) = lns es ++ [(x.ln, x.ws)] := by unfold lns; rw [List.map_append]; rfl
theorem wdl_snoc (es : List En) (x : En) : wdl (es ++ [x]) = wdl es ++ x.ws := by unfold wdl; rw [List.flatMap_append]; simp
theorem ftl_snoc (es : List En) (x : En) : ftl (es ++ [x]) = ftl es ++ fst0 x.ws.length := by unfold ftl; rw [List.flatMap_append]; simp
theorem csl_snoc (es : List En) (x : En) : csl (es ++ [x]) = csl es ++ List.replicate x.ws.length x.cs := by unfold csl; rw [List.flatMap_append]; simp
theorem wdl_few {c : G.Cf} {es : List En} (h : ∀ x ∈ es, enOk c x) : (wdl es).length ≤ 17 * es.length := by
  induction es with
  | nil => exact Nat.le_refl _
  | cons x es ih =>
    have h1 := (h x List.mem_cons_self).2.1
    have h2 := ih fun y hy => h y (List.mem_cons_of_mem _ hy)
    have e1 : wdl (x :: es) = x.ws ++ wdl es := by unfold wdl; rw [List.flatMap_cons]
    rw [e1, List.length_append, List.length_cons]
    omega
theorem wdl_len (es : List En) : (ftl es).length = (wdl es).length ∧ (csl es).length = (wdl es).length := by
  induction es with
  | nil => exact ⟨rfl, rfl⟩
  | cons x es ih =>
    have e1 : wdl (x :: es) = x.ws ++ wdl es := by unfold wdl; rw [List.flatMap_cons]
    have e2 : ftl (x :: es) = fst0 x.ws.length ++ ftl es := by unfold ftl; rw [List.flatMap_cons]
    have e3 : csl (x :: es) = List.replicate x.ws.length x.cs ++ csl es := by unfold csl; rw [List.flatMap_cons]
    rw [e1, e2, e3, List.length_append, List.length_append, List.length_append, ih.1, ih.2]
    unfold fst0
    simp
/-- The Heads, when the first k of them have been brought into the mesh. -/
def hdk (c : G.Cf) (hs : List (Int × Int)) (k : Nat) : List (Int × Int) := (hs.take k).map (fun h => (G.nde c h.1, h.2)) ++ hs.drop k
theorem hdk_zero (c : G.Cf) (hs : List (Int × Int)) : hdk c hs 0 = hs := by unfold hdk; simp
theorem hdk_len (c : G.Cf) (hs : List (Int × Int)) (k : Nat) : (hdk c hs k).length = hs.length := by unfold hdk; simp; omega
theorem hdk_at (c : G.Cf) (hs : List (Int × Int)) {k : Nat} (hk : k < hs.length) (j : Nat) : (hdk c hs (k + 1))[j]? = if j = k then some (G.nde c (hs.getD k (0, 0)).1, (hs.getD k (0, 0)).2) else (hdk c hs k)[j]? := by
  unfold hdk
  rw [List.getD_eq_getElem?_getD, List.getElem?_eq_getElem hk, Option.getD_some]
  by_cases h1 : j < k
  · rw [if_neg (by omega), List.getElem?_append_left (by simp; omega), List.getElem?_append_left (by simp; omega)]
    simp [h1, show j < k + 1 by omega]
  · by_cases h2 : j = k
    · subst h2
      rw [if_pos rfl, List.getElem?_append_left (by simp; omega)]
      simp [List.getElem?_eq_getElem hk]
    · rw [if_neg h2, List.getElem?_append_right (by simp; omega), List.getElem?_append_right (by simp; omega)]
      simp only [List.length_map, List.length_take, List.getElem?_drop]
      congr 1
      omega
theorem hdk_here (c : G.Cf) (hs : List (Int × Int)) {k : Nat} (hk : k < hs.length) : (hdk c hs k)[k]? = some (hs.getD k (0, 0)) := by
  unfold hdk
  rw [List.getElem?_append_right (by simp; omega), List.getD_eq_getElem?_getD, List.getElem?_eq_getElem hk]
  simp only [List.length_map, List.length_take, List.getElem?_drop]
  rw [show k + (k - min k hs.length) = k by omega, List.getElem?_eq_getElem hk]
  rfl
/-- A row of Heads in a block. -/
def HdAt (cs : Array Value) (o : Nat) (hs : List (Int × Int)) : Prop := ∀ j h, hs[j]? = some h → cs[o + j * 2]? = some (.int .i64 h.1) ∧ cs[o + j * 2 + 1]? = some (.int .i64 h.2)
theorem HdAt.rd {y : World} {b o : Nat} {cs : Array Value} {t : TypeId} {hs : List (Int × Int)} (h : HdAt cs o hs) (hB : Bk y b cs t) : Rd y (some ⟨b, o, none⟩) (pc hs) := fun j v hj => by
  have hjl := (List.getElem?_eq_some_iff.1 hj).1
  rw [pc_len] at hjl
  obtain ⟨m, hm⟩ : ∃ m, j / 2 = m := ⟨_, rfl⟩
  have hl : m < hs.length := by omega
  obtain ⟨p0, p1⟩ := pc_at hs m hl
  have hh : hs[m]? = some (hs.getD m (0, 0)) := by rw [List.getD_eq_getElem?_getD, List.getElem?_eq_getElem hl]; rfl
  obtain ⟨q0, q1⟩ := h _ _ hh
  refine ⟨b, o, rfl, hB.lt, ?_⟩
  rw [hB.cell]
  rcases (by omega : j = m * 2 ∨ j = m * 2 + 1) with e1 | e1
  · rw [e1, p0] at hj
    cases hj
    rw [e1]
    exact q0
  · rw [e1, p1] at hj
    cases hj
    rw [e1, ← Nat.add_assoc]
    exact q1
theorem HdAt.of {y : World} {b o : Nat} {cs : Array Value} {t : TypeId} {hs : List (Int × Int)} (h : Rd y (some ⟨b, o, none⟩) (pc hs)) (hB : Bk y b cs t) : HdAt cs o hs := fun j x hj => by
  have hl := (List.getElem?_eq_some_iff.1 hj).1
  obtain ⟨p0, p1⟩ := pc_at hs j hl
  have hx : hs.getD j (0, 0) = x := by rw [List.getD_eq_getElem?_getD, hj]; rfl
  rw [hx] at p0 p1
  obtain ⟨g9, o9, e9, _, c9⟩ := h _ _ p0
  obtain ⟨g8, o8, e8, _, c8⟩ := h _ _ p1
  simp only [Option.some.injEq, Addr.mk.injEq] at e9 e8
  obtain ⟨rfl, rfl, _⟩ := e9
  obtain ⟨rfl, rfl, _⟩ := e8
  rw [hB.cell] at c9 c8
  exact ⟨c9, by rw [Nat.add_assoc]; exact c8⟩
theorem HdAt.step {c : G.Cf} {cs : Array Value} {o k : Nat} {hs : List (Int × Int)} (h : HdAt cs o (hdk c hs k)) (hk : k < hs.length) : HdAt (cs.setIfInBounds (o + k * 2) (.int .i64 (G.nde c (hs.getD k (0, 0)).1))) o (hdk c hs (k + 1)) := fun j x hj => by
  have hsz : o + k * 2 < cs.size := by
    have := (h k _ (hdk_here c hs hk)).1
    exact (Array.getElem?_eq_some_iff.1 this).1
  rw [hdk_at c hs hk] at hj
  by_cases e1 : j = k
  · subst e1
    rw [if_pos rfl] at hj
    cases hj
    have := (h j _ (hdk_here c hs hk)).2
    exact ⟨Array.getElem?_setIfInBounds_self_of_lt hsz, by rw [Array.getElem?_setIfInBounds_ne (by omega)]; exact this⟩
  · rw [if_neg e1] at hj
    obtain ⟨a1, a2⟩ := h j x hj
    exact ⟨by rw [Array.getElem?_setIfInBounds_ne (by omega)]; exact a1, by rw [Array.getElem?_setIfInBounds_ne (by omega)]; exact a2⟩
/-- What is sent in this law may be sent. -/
theorem puts_ok {c : G.Cf} (f : G.Fits c) (hk : G.chk c = 0) (hn : G.nod c ≤ 4096) {p : Pc} (hok : p.okB = true) (hc : p.c = true → c.ca = true) {nd : Int} (hnd : G.isN c nd = true) (st lf : Int) (h0 : 0 ≤ st) :
    Pc.okB ⟨nd, p.c, hdk c p.hs p.hs.length, p.x⟩ = true ∧ sendE ⟨c, nd, st, lf⟩ ⟨nd, p.c, hdk c p.hs p.hs.length, p.x⟩ = 0 ∧ (0 ≤ (G.cla c p.c).1 ∧ (G.cla c p.c).1 ≤ 8 ∧ 0 ≤ (G.cla c p.c).2 ∧ (G.cla c p.c).2 ≤ 8) ∧ (G.cla c p.c).1 ≤ lnR ⟨c, nd, st, lf⟩ ⟨nd, p.c, hdk c p.hs p.hs.length, p.x⟩ ∧ lnR ⟨c, nd, st, lf⟩ ⟨nd, p.c, hdk c p.hs p.hs.length, p.x⟩ < (G.cla c p.c).1 + (G.cla c p.c).2 := by
  obtain ⟨-, ⟨l1, l2, l3⟩, ok3, ok4⟩ := (ok_iff _).1 hok
  have hnd' := hnd
  unfold G.isN at hnd'
  simp only [Bool.and_eq_true, decide_eq_true_eq] at hnd'
  have hm : ∀ h ∈ hdk c p.hs p.hs.length, ∃ h0 ∈ p.hs, h = (G.nde c h0.1, h0.2) := fun h hh => by
    unfold hdk at hh
    rw [List.take_length, List.drop_length, List.append_nil] at hh
    obtain ⟨h0, q1, q2⟩ := List.mem_map.1 hh
    exact ⟨h0, q1, q2.symm⟩
  have o1 : Pc.okB ⟨nd, p.c, hdk c p.hs p.hs.length, p.x⟩ = true := by
    rw [ok_iff]
    refine ⟨⟨hnd'.1, by show nd ≤ 4095; omega⟩, by rw [hdk_len]; exact ⟨l1, l2, l3⟩, ok3, fun h hh => ?_⟩
    obtain ⟨h0, q1, rfl⟩ := hm h hh
    have a1 := (headOk_iff _).1 (ok4 h0 q1)
    have a2 := G.nde_in hk h0.1
    unfold G.isN at a2
    simp only [Bool.and_eq_true, decide_eq_true_eq] at a2
    rw [headOk_iff]
    exact ⟨a2.1, by show G.nde c h0.1 ≤ 4095; omega, a1.2.2.1, a1.2.2.2⟩
  have hth : thr c (hdk c p.hs p.hs.length) = true := by
    unfold thr
    rw [List.all_eq_true]
    intro h hh
    obtain ⟨h0, q1, rfl⟩ := hm h hh
    exact G.nde_in hk h0.1
  have f1 := f.l1
  have f2 := f.l2
  have hcl : 0 ≤ (G.cla c p.c).1 ∧ (G.cla c p.c).1 ≤ 8 ∧ 1 ≤ (G.cla c p.c).2 ∧ (G.cla c p.c).2 ≤ 8 := by
    unfold G.cla
    rw [if_pos hk]
    by_cases h1 : c.ca = true
    · have h3 := f.lc h1
      rw [if_pos h1]
      by_cases h2 : p.c = true
      · rw [if_pos h2]; simp only; omega
      · rw [if_neg h2]; simp only; omega
    · have h2 : ¬ p.c = true := fun h => h1 (hc h)
      rw [if_neg h1, if_neg h2]
      simp only
      omega
  have e1 : st.tmod (G.cla c p.c).2 = st % (G.cla c p.c).2 := Int.tmod_eq_emod_of_nonneg h0
  have e2 := Int.emod_nonneg st (show (G.cla c p.c).2 ≠ 0 by omega)
  have e3 := Int.emod_lt_of_pos st (show 0 < (G.cla c p.c).2 by omega)
  refine ⟨o1, ?_, ⟨hcl.1, hcl.2.1, by omega, hcl.2.2.2⟩, ?_, ?_⟩
  · unfold sendE
    rw [wordsR_ok o1, if_neg (by simp), if_pos ⟨rfl, hth⟩, if_neg (by show ¬ (G.cla c p.c).2 = 0; omega)]
  · unfold lnR
    show (G.cla c p.c).1 ≤ (G.cla c p.c).1 + st.tmod (G.cla c p.c).2
    omega
  · unfold lnR
    show (G.cla c p.c).1 + st.tmod (G.cla c p.c).2 < _
    omega
end Go.Proofs.YtoejpngdkcnnhaaGreat
