/-
  Sets by their labels, and plans, as plain mathematics.
-/
import Derived.Test.YtcebfkkpclnmoaaDoorSPlain
import Derived.Lib.SlicesCompact
import Derived.Lib.RowBridge
import Derived.Shelf.SlSortCmp.Insertion
namespace Go.Proofs.YtcebfkkpclnmoaaDoor
open Go.Sort Go.Lib

/-- A row by its labels. -/
def leL (c : Cf) (x y : Int) : Prop := lb c x ≤ lb c y
def srt (c : Cf) (l : List Int) : List Int := l.mergeSort fun x y => decide (lb c x ≤ lb c y)
theorem srt_perm (c : Cf) (l : List Int) : (srt c l).Perm l := List.mergeSort_perm _ _
theorem srt_pw (c : Cf) (l : List Int) : List.Pairwise (leL c) (srt c l) := by
  have h := List.pairwise_mergeSort (le := fun x y => decide (lb c x ≤ lb c y)) (by intro a b d; simp only [decide_eq_true_eq]; omega) (by intro a b; simp only [Bool.or_eq_true, decide_eq_true_eq]; omega) l
  exact List.Pairwise.imp (R := fun a b => decide (lb c a ≤ lb c b) = true) (by intro a b h; unfold leL; exact of_decide_eq_true h) h
theorem srt_is {c : Cf} {l : List Int} (h : ∀ n ∈ l, isN c n = true) : ∀ n ∈ srt c l, isN c n = true := fun n hn => h n ((srt_perm c l).mem_iff.1 hn)
theorem srt_len (c : Cf) (l : List Int) : (srt c l).length = l.length := (srt_perm c l).length_eq
theorem srt_nodup {c : Cf} {l : List Int} (h : l.Nodup) : (srt c l).Nodup := (srt_perm c l).nodup_iff.2 h
theorem srt_uniq {c : Cf} {zs ss : List Int} (hN : ∀ n ∈ zs, isN c n = true) (hp : ss.Perm zs) (hs : List.Pairwise (leL c) ss) : ss = srt c zs := by
  refine List.Perm.eq_of_pairwise (le := leL c) ?_ hs (srt_pw c zs) (hp.trans (srt_perm c zs).symm)
  intro a b ha hb h1 h2
  unfold leL at h1 h2
  exact lb_inj (hN a (hp.mem_iff.1 ha)) (hN b ((srt_perm c zs).mem_iff.1 hb)) (by omega)
theorem srt_same {c : Cf} {a b : List Int} (hN : ∀ n ∈ b, isN c n = true) (h : a.Perm b) : srt c a = srt c b := srt_uniq hN ((srt_perm c a).trans h) (srt_pw c a)
theorem srt_one (c : Cf) (n : Int) : srt c [n] = [n] := List.mergeSort_singleton n
/-- .. and each once: its labels rise. -/
theorem srt_rises {c : Cf} {l : List Int} (hN : ∀ n ∈ l, isN c n = true) (hd : l.Nodup) : List.Pairwise (ris c true) (srt c l) := by
  have h1 := srt_pw c l
  have h2 := List.nodup_iff_pairwise_ne.1 (srt_nodup (c := c) hd)
  have h3 := srt_is hN
  generalize srt c l = s at h1 h2 h3
  induction s with
  | nil => exact List.Pairwise.nil
  | cons x s ih =>
    obtain ⟨a1, a2⟩ := List.pairwise_cons.1 h1
    obtain ⟨b1, b2⟩ := List.pairwise_cons.1 h2
    refine List.pairwise_cons.2 ⟨?_, ih a2 b2 (fun n hn => h3 n (List.mem_cons_of_mem _ hn))⟩
    intro y hy
    have e1 := a1 y hy
    have e2 := b1 y hy
    have e3 : lb c x ≠ lb c y := fun e => e2 (lb_inj (h3 x (List.mem_cons_self ..)) (h3 y (List.mem_cons_of_mem _ hy)) e)
    unfold leL at e1
    unfold ris
    rw [if_pos rfl]
    omega

/-- The comparison that the sort is handed. -/
def cfL (c : Cf) (x y : Int) : Int := Lib.compareInt (lb c x) (lb c y)
theorem ltL (c : Cf) (x y : Int) : ltOf (cfL c) x y = decide (lb c x < lb c y) := by
  unfold ltOf cfL Lib.compareInt
  by_cases h1 : lb c x < lb c y
  · simp [h1]
  · by_cases h2 : lb c y < lb c x <;> simp [h1, h2]
theorem swoL (c : Cf) : SWO (ltOf (cfL c)) where
  irrefl x := by rw [ltL]; simp
  trans x y z h1 h2 := by rw [ltL] at *; simp at *; omega
  ntrans x y z h1 h2 := by rw [ltL] at *; simp at *; omega
/-- What it leaves is the row by its labels. -/
theorem sorted_srt {c : Cf} {zs : List Int} {d : Array Int} (hN : ∀ n ∈ zs, isN c n = true) (hp : PermIn 0 zs.toArray.size zs.toArray d) (hs : SortedIn (ltOf (cfL c)) 0 zs.toArray.size d) : d = (srt c zs).toArray := by
  obtain ⟨h1, _, h3⟩ := hp
  have e1 : d.extract 0 zs.toArray.size = d := by rw [← h1]; exact Array.extract_size
  rw [e1, Array.extract_size] at h3
  have hpw : List.Pairwise (leL c) d.toList := by
    rw [List.pairwise_iff_getElem]
    intro i j hi hj hij
    have hj' : j < d.size := by simpa using hj
    have hi' : i < d.size := by simpa using hi
    have h := hs i j (Nat.zero_le _) hij (by rw [← h1]; exact hj')
    rw [ltL] at h
    simp only [decide_eq_false_iff_not] at h
    rw [getElem!_pos d i hi', getElem!_pos d j hj'] at h
    unfold leL
    simp only [Array.getElem_toList]
    omega
  have e := srt_uniq hN h3 hpw
  exact Array.toList_inj.1 (by simpa using e)

/-- A row with one twice is told by what is struck. -/
theorem keeps_len (d : Array Int) (m : Nat) : (compactUpTo d m).length ≤ m ∧ ((∃ j, j < m ∧ keeps d j = false) → (compactUpTo d m).length < m) := by
  induction m with
  | zero => exact ⟨by simp [compactUpTo], fun ⟨j, h, _⟩ => absurd h (Nat.not_lt_zero _)⟩
  | succ m ih =>
    rw [compactUpTo_succ, List.length_append]
    obtain ⟨h1, h2⟩ := ih
    cases hk : keeps d m with
    | true =>
      simp only [if_true, List.length_cons, List.length_nil]
      refine ⟨by omega, ?_⟩
      rintro ⟨j, hj, hf⟩
      have : j ≠ m := by rintro rfl; rw [hk] at hf; cases hf
      have := h2 ⟨j, by omega, hf⟩
      omega
    | false =>
      simp only [Bool.false_eq_true, if_false, List.length_nil]
      exact ⟨by omega, fun _ => by omega⟩
theorem twice_iff {c : Cf} {zs : List Int} (hN : ∀ n ∈ zs, isN c n = true) : (Lib.compact (srt c zs)).length < zs.length ↔ ¬ zs.Nodup := by
  have hN' := srt_is hN
  have hp := srt_pw c zs
  rw [← srt_len c zs, ← (srt_perm c zs).nodup_iff]
  generalize srt c zs = s at *
  rw [List.pairwise_iff_getElem] at hp
  constructor
  · intro h hd
    have hall : ∀ j, j < s.length → keeps s.toArray j = true := by
      intro j hj
      by_cases h0 : j = 0
      · subst h0; simp [keeps]
      · refine keeps_pos ?_
        intro e
        rw [getElem!_pos s.toArray j (by simpa using hj), getElem!_pos s.toArray (j - 1) (by simp; omega)] at e
        have e : s[j] = s[j - 1] := by simpa using e
        have := List.nodup_iff_pairwise_ne.1 hd
        rw [List.pairwise_iff_getElem] at this
        exact this (j - 1) j (by omega) hj (by omega) e.symm
    rw [compact_all s hall] at h
    omega
  · intro hd
    apply Classical.byContradiction
    intro h
    apply hd
    have hk : ∀ j, j < s.length → keeps s.toArray j = true := by
      intro j hj
      cases hk : keeps s.toArray j with
      | true => rfl
      | false => exact absurd ((keeps_len s.toArray s.length).2 ⟨j, hj, hk⟩) h
    have hadj : ∀ j (hj : j + 1 < s.length), lb c s[j] < lb c s[j + 1] := by
      intro j hj
      have k := hk (j + 1) hj
      have l := hp j (j + 1) (by omega) hj (by omega)
      unfold leL at l
      have hne : s[j] ≠ s[j + 1] := by
        intro e
        have : keeps s.toArray (j + 1) = false := keeps_neg (by omega) (by
          rw [getElem!_pos s.toArray (j + 1) (by simpa using hj), getElem!_pos s.toArray (j + 1 - 1) (by simp; omega)]
          simpa using e.symm)
        rw [this] at k
        cases k
      have : lb c s[j] ≠ lb c s[j + 1] := fun e => hne (lb_inj (hN' _ (List.getElem_mem _)) (hN' _ (List.getElem_mem _)) e)
      omega
    have hlt : ∀ i k (hk : i + 1 + k < s.length), lb c s[i] < lb c s[i + 1 + k] := by
      intro i k
      induction k with
      | zero => intro hk; exact hadj i hk
      | succ k ih =>
        intro hk
        have a := ih (by omega)
        have b := hadj (i + 1 + k) hk
        exact Int.lt_trans a b
    rw [List.nodup_iff_pairwise_ne, List.pairwise_iff_getElem]
    intro i j hi hj hij e
    have := hlt i (j - i - 1) (by omega)
    have ej : s[i + 1 + (j - i - 1)]'(by omega) = s[j] := by congr 1; omega
    rw [ej, e] at this
    omega

/-- The three lists of a plan, of a row by its labels. -/
def gtr (c : Cf) (f : Int) (l : List Int) : List Int := l.filter fun n => decide (lb c f < lb c n)
def les (c : Cf) (f : Int) (l : List Int) : List Int := (l.filter fun n => decide (lb c n < lb c f)).reverse
def sef (c : Cf) (f : Int) (l : List Int) : List Int := l.filter fun n => decide (lb c n = lb c f)
theorem gtr_snoc (c : Cf) (f : Int) (l : List Int) (n : Int) : gtr c f (l ++ [n]) = if lb c f < lb c n then gtr c f l ++ [n] else gtr c f l := by
  unfold gtr
  rw [List.filter_append, List.filter_cons, List.filter_nil]
  by_cases h : lb c f < lb c n <;> simp [h]
theorem les_snoc (c : Cf) (f : Int) (l : List Int) (n : Int) : les c f (l ++ [n]) = if lb c n < lb c f then n :: les c f l else les c f l := by
  unfold les
  rw [List.filter_append, List.filter_cons, List.filter_nil]
  by_cases h : lb c n < lb c f <;> simp [h]
theorem les_snoc' (c : Cf) (f : Int) (l : List Int) (n : Int) : (les c f (l ++ [n])).reverse = if lb c n < lb c f then (les c f l).reverse ++ [n] else (les c f l).reverse := by
  rw [les_snoc]
  split <;> simp
theorem sef_snoc (c : Cf) (f : Int) (l : List Int) (n : Int) : sef c f (l ++ [n]) = if lb c n = lb c f then sef c f l ++ [n] else sef c f l := by
  unfold sef
  rw [List.filter_append, List.filter_cons, List.filter_nil]
  by_cases h : lb c n = lb c f <;> simp [h]
theorem gtr_le (c : Cf) (f : Int) (l : List Int) : (gtr c f l).length ≤ l.length := List.length_filter_le ..
theorem les_le (c : Cf) (f : Int) (l : List Int) : (les c f l).length ≤ l.length := by unfold les; rw [List.length_reverse]; exact List.length_filter_le ..
theorem sef_le (c : Cf) (f : Int) (l : List Int) : (sef c f l).length ≤ l.length := List.length_filter_le ..
theorem part_len (c : Cf) (f : Int) (l : List Int) : (gtr c f l).length + (les c f l).length + (sef c f l).length = l.length := by
  unfold les
  rw [List.length_reverse]
  unfold gtr sef
  induction l with
  | nil => rfl
  | cons x l ih =>
    simp only [List.filter_cons]
    by_cases h1 : lb c f < lb c x
    · have h2 : ¬ lb c x < lb c f := by omega
      have h3 : ¬ lb c x = lb c f := by omega
      simp only [h1, h2, h3, decide_true, decide_false, if_true, Bool.false_eq_true, if_false, List.length_cons]
      omega
    · by_cases h2 : lb c x < lb c f
      · have h3 : ¬ lb c x = lb c f := by omega
        simp only [h1, h2, h3, decide_true, decide_false, if_true, Bool.false_eq_true, if_false, List.length_cons]
        omega
      · have h3 : lb c x = lb c f := by omega
        simp only [h3, Int.lt_irrefl, decide_true, decide_false, if_true, Bool.false_eq_true, if_false, List.length_cons]
        omega
theorem part_count (c : Cf) (f n : Int) (l : List Int) : List.count n (gtr c f l) + List.count n (les c f l) + List.count n (sef c f l) = List.count n l := by
  unfold les
  rw [List.count_reverse]
  unfold gtr sef
  induction l with
  | nil => rfl
  | cons x l ih =>
    simp only [List.filter_cons, List.count_cons]
    by_cases h1 : lb c f < lb c x
    · have h2 : ¬ lb c x < lb c f := by omega
      have h3 : ¬ lb c x = lb c f := by omega
      simp only [h1, h2, h3, decide_true, decide_false, if_true, Bool.false_eq_true, if_false, List.count_cons]
      omega
    · by_cases h2 : lb c x < lb c f
      · have h3 : ¬ lb c x = lb c f := by omega
        simp only [h1, h2, h3, decide_true, decide_false, if_true, Bool.false_eq_true, if_false, List.count_cons]
        omega
      · have h3 : lb c x = lb c f := by omega
        simp only [h3, Int.lt_irrefl, decide_true, decide_false, if_true, Bool.false_eq_true, if_false, List.count_cons]
        omega
theorem gtr_is {c : Cf} {f : Int} {l : List Int} (h : ∀ n ∈ l, isN c n = true) : ∀ n ∈ gtr c f l, isN c n = true := fun n hn => h n ((List.mem_filter.1 hn).1)
theorem les_is {c : Cf} {f : Int} {l : List Int} (h : ∀ n ∈ l, isN c n = true) : ∀ n ∈ les c f l, isN c n = true := fun n hn => h n ((List.mem_filter.1 (List.mem_reverse.1 hn)).1)
theorem gtr_rises {c : Cf} {l : List Int} (f : Int) (h : List.Pairwise (ris c true) l) : List.Pairwise (ris c true) (f :: gtr c f l) := by
  refine List.pairwise_cons.2 ⟨?_, h.filter _⟩
  intro n hn
  have := (List.mem_filter.1 hn).2
  unfold ris
  rw [if_pos rfl]
  exact of_decide_eq_true this
theorem les_falls {c : Cf} {l : List Int} (f : Int) (h : List.Pairwise (ris c true) l) : List.Pairwise (ris c false) (f :: les c f l) := by
  refine List.pairwise_cons.2 ⟨?_, ?_⟩
  · intro n hn
    have := (List.mem_filter.1 (List.mem_reverse.1 hn)).2
    unfold ris
    rw [if_neg (by decide)]
    exact of_decide_eq_true this
  · unfold les
    rw [List.pairwise_reverse]
    refine (h.filter _).imp ?_
    intro a b hab
    unfold ris at hab ⊢
    rw [if_pos rfl] at hab
    rw [if_neg (by decide)]
    exact hab
theorem sef_one {c : Cf} {f : Int} {l : List Int} (h : List.Pairwise (ris c true) l) : (sef c f l).length ≤ 1 := by
  have hp := h.filter (fun n => decide (lb c n = lb c f))
  have hm : ∀ n ∈ sef c f l, lb c n = lb c f := fun n hn => of_decide_eq_true (List.mem_filter.1 hn).2
  unfold sef at hm ⊢
  generalize l.filter (fun n => decide (lb c n = lb c f)) = s at *
  match s with
  | [] => exact Nat.zero_le _
  | [_] => exact Nat.le_refl _
  | a :: b :: s =>
    exfalso
    have h1 := (List.pairwise_cons.1 hp).1 b (List.mem_cons_self ..)
    have h2 := hm a (List.mem_cons_self ..)
    have h3 := hm b (List.mem_cons_of_mem _ (List.mem_cons_self ..))
    unfold ris at h1
    rw [if_pos rfl] at h1
    omega

/-- A plan: whether there is one, what is told, and its lists. -/
def stB' (c : Cf) (s : List Int) : Bool := (decide (s ≠ []) && areN c s) && decide s.Nodup
def plB (c : Cf) (f : Int) (s : List Int) : Bool := isN c f && stB' c s
def plG (c : Cf) (f : Int) (s : List Int) : List Int := if plB c f s = true then gtr c f (srt c s) else []
def plL (c : Cf) (f : Int) (s : List Int) : List Int := if plB c f s = true then les c f (srt c s) else []
def plS (c : Cf) (f : Int) (s : List Int) : List Int := if plB c f s = true then sef c f (srt c s) else []
theorem stB'_iff {c : Cf} {s : List Int} : stB' c s = true ↔ s ≠ [] ∧ (∀ n ∈ s, isN c n = true) ∧ s.Nodup := by
  unfold stB'
  rw [Bool.and_eq_true, Bool.and_eq_true, decide_eq_true_eq, decide_eq_true_eq, areN_iff]
  exact ⟨fun h => ⟨h.1.1, h.1.2, h.2⟩, fun h => ⟨⟨h.1, h.2.1⟩, h.2.2⟩⟩
theorem plB_mk {c : Cf} {f : Int} {s : List Int} (h : isN c f = true) (h0 : s ≠ []) (h1 : ∀ n ∈ s, isN c n = true) (h2 : s.Nodup) : plB c f s = true := by
  unfold plB
  rw [h, stB'_iff.2 ⟨h0, h1, h2⟩]
  rfl

/-- The nodes of a set that have a label, and those of the labels below k. -/
def lev (c : Cf) (s : List Int) (k : Int) : List Int := s.filter fun n => decide (lb c n = k)
def flt (c : Cf) (s : List Int) : Nat → List Int
  | 0 => []
  | k + 1 => flt c s k ++ lev c s (k : Int)
theorem lev_snoc (c : Cf) (l : List Int) (n k : Int) : lev c (l ++ [n]) k = if lb c n = k then lev c l k ++ [n] else lev c l k := by
  unfold lev
  rw [List.filter_append, List.filter_cons, List.filter_nil]
  by_cases h : lb c n = k <;> simp [h]
theorem filter_split (c : Cf) (k : Int) : ∀ s : List Int, List.Pairwise (leL c) s → s.filter (fun n => decide (lb c n < k + 1)) = s.filter (fun n => decide (lb c n < k)) ++ s.filter (fun n => decide (lb c n = k)) := by
  intro s
  induction s with
  | nil => intro _; rfl
  | cons x s ih =>
    intro h
    obtain ⟨h1, h2⟩ := List.pairwise_cons.1 h
    have e := ih h2
    by_cases a : lb c x < k
    · have a1 : lb c x < k + 1 := by omega
      have a2 : ¬ lb c x = k := by omega
      simp only [List.filter_cons, a, a1, a2, decide_true, decide_false, if_true, Bool.false_eq_true, if_false, e, List.cons_append]
    · have z : s.filter (fun n => decide (lb c n < k)) = [] := by
        rw [List.filter_eq_nil_iff]
        intro n hn
        have := h1 n hn
        unfold leL at this
        simp only [decide_eq_true_eq]
        omega
      rw [z] at e
      by_cases b : lb c x = k
      · simp only [List.filter_cons, b, decide_true, decide_false, if_true, Bool.false_eq_true, if_false, e, z, List.nil_append, Int.lt_irrefl]
        have : k < k + 1 := by omega
        simp [this]
      · have a1 : ¬ lb c x < k + 1 := by omega
        simp only [List.filter_cons, a, a1, b, decide_false, Bool.false_eq_true, if_false, e, z, List.nil_append]
theorem lev_srt {c : Cf} {s : List Int} (hN : ∀ n ∈ s, isN c n = true) (k : Int) : (srt c s).filter (fun n => decide (lb c n = k)) = lev c s k := by
  have hp := (srt_perm c s).filter (fun n => decide (lb c n = k))
  unfold lev
  generalize hA : (srt c s).filter (fun n => decide (lb c n = k)) = A at hp ⊢
  generalize hB : s.filter (fun n => decide (lb c n = k)) = B at hp ⊢
  cases B with
  | nil => exact hp.eq_nil
  | cons x B =>
    have hx : ∀ n ∈ x :: B, n = x := by
      have hm : ∀ n ∈ x :: B, n ∈ s ∧ lb c n = k := by
        intro n hn
        rw [← hB] at hn
        have := List.mem_filter.1 hn
        exact ⟨this.1, of_decide_eq_true this.2⟩
      intro n hn
      have a := hm n hn
      have b := hm x (List.mem_cons_self ..)
      exact lb_inj (hN n a.1) (hN x b.1) (by omega)
    have e : x :: B = List.replicate (x :: B).length x := List.eq_replicate_iff.2 ⟨rfl, hx⟩
    rw [e] at hp ⊢
    exact List.perm_replicate.1 hp
theorem flt_srt {c : Cf} {s : List Int} (hN : ∀ n ∈ s, isN c n = true) (k : Nat) : flt c s k = (srt c s).filter (fun n => decide (lb c n < (k : Int))) := by
  induction k with
  | zero =>
    symm
    show List.filter _ _ = []
    rw [List.filter_eq_nil_iff]
    intro n _
    have := lb_in c n
    simp only [decide_eq_true_eq]
    omega
  | succ k ih =>
    show flt c s k ++ lev c s (k : Int) = _
    rw [ih, ← lev_srt hN, show ((k + 1 : Nat) : Int) = (k : Int) + 1 by omega, filter_split c k _ (srt_pw c s)]
theorem flt_all {c : Cf} {s : List Int} (hN : ∀ n ∈ s, isN c n = true) : flt c s (nod c).toNat = srt c s := by
  rw [flt_srt hN]
  refine List.filter_eq_self.2 ?_
  intro n hn
  have := lb_lt (srt_is hN n hn)
  have := nod_in c
  simp only [decide_eq_true_eq]
  omega
theorem flt_le {c : Cf} {s : List Int} (hN : ∀ n ∈ s, isN c n = true) (k : Nat) : (flt c s k).length ≤ s.length := by
  rw [flt_srt hN, ← srt_len c s]
  exact List.length_filter_le ..
theorem lev_le (c : Cf) (s : List Int) (k : Int) : (lev c s k).length ≤ s.length := List.length_filter_le ..
end Go.Proofs.YtcebfkkpclnmoaaDoor
