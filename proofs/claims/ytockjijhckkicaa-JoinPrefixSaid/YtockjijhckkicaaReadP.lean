/-
  For the walk of the document's Read: a parcel read flit by flit (plain mathematics), an append of a pair in a region of the text's order.
-/
import Derived.Test.YtockjijhckkicaaRwords
namespace Go.Proofs.Ytockjijhckkicaa
open Go.RowKit

/-- What the first k words tell. -/
def pk (l : List Nat) (k : Nat) : Pc := coll ((l.take k).map fun w => (readR w).1)
theorem pk_succ {l : List Nat} {k : Nat} (h : k < l.length) : pk l (k + 1) = (pk l k).add (readR (l.getD k 0)).1 := by
  unfold pk
  have e : l.take (k + 1) = l.take k ++ [l.getD k 0] := by
    rw [List.take_add_one, List.getElem?_eq_getElem h, List.getD_eq_getElem?_getD, List.getElem?_eq_getElem h]
    rfl
  rw [e, List.map_append, List.map_cons, List.map_nil, coll_snoc]
theorem pk_zero (l : List Nat) : pk l 0 = zp := by
  unfold pk
  rw [List.take_zero]
  rfl
theorem add_one (P : Pc) (s d q l : Int) (m c : Bool) (x : ByteArray) : P.add ⟨1, s, d, q, l, m, c, x⟩ = ⟨s, c, P.hs ++ [(d, q)], P.x ++ x⟩ := rfl
theorem add_other (P : Pc) {k : Int} (h : ¬ k = 1) (s d q l : Int) (m c : Bool) (x : ByteArray) : P.add ⟨k, s, d, q, l, m, c, x⟩ = ⟨P.s, P.c, P.hs, P.x ++ x⟩ := by
  unfold Pc.add
  exact if_neg h
theorem pk_all (l : List Nat) : pk l l.length = coll (l.map fun w => (readR w).1) := by unfold pk; rw [List.take_length]
theorem pk_small {l : List Nat} : ∀ k, k ≤ l.length → (∀ j, j < k → (readR (l.getD j 0)).2 = 0) → (pk l k).hs.length ≤ k ∧ (pk l k).x.size ≤ 6 * k := by
  intro k
  induction k with
  | zero => intro _ _; exact ⟨Nat.le_refl _, by show ByteArray.empty.size ≤ 0; simp⟩
  | succ k ih =>
    intro hk h
    obtain ⟨i1, i2⟩ := ih (by omega) fun j hj => h j (by omega)
    obtain ⟨_, hr⟩ := readR_ok (h k (by omega))
    rw [pk_succ (by omega)]
    unfold Pc.add
    by_cases h1 : (readR (l.getD k 0)).1.k = 1
    · rw [if_pos h1]
      rcases right_forms hr with ⟨_, _, _, _, _, _, _, _, _, hx⟩ | ⟨h2, _⟩
      · refine ⟨by simp only [List.length_append, List.length_singleton]; omega, ?_⟩
        simp only [hx, ByteArray.size_append]
        show _ + 0 ≤ _
        omega
      · omega
    · rw [if_neg h1]
      have := right_size hr h1
      refine ⟨by simp only; omega, ?_⟩
      simp only [ByteArray.size_append]
      omega
theorem errR_no : ∀ (l : List Nat) (k : Nat), k < l.length → (∀ j, j < k → (readR (l.getD j 0)).2 = 0) → (readR (l.getD k 0)).2 ≠ 0 → errR l = (readR (l.getD k 0)).2
  | [], _, h, _, _ => absurd h (Nat.not_lt_zero _)
  | w :: l, 0, _, _, h => by
    unfold errR
    simp only [List.getD_cons_zero] at h ⊢
    rw [if_pos h]
  | w :: l, k + 1, hk, hj, h => by
    have h0 := hj 0 (by omega)
    simp only [List.getD_cons_zero] at h0
    unfold errR
    rw [if_neg (by simpa using h0)]
    simp only [List.getD_cons_succ] at h ⊢
    exact errR_no l k (by simpa using hk) (fun j hlt => by have := hj (j + 1) (by omega); simpa using this) h
theorem errR_all : ∀ (l : List Nat), (∀ j, j < l.length → (readR (l.getD j 0)).2 = 0) → errR l = 0
  | [], _ => rfl
  | w :: l, h => by
    have h0 := h 0 (by simp)
    simp only [List.getD_cons_zero] at h0
    unfold errR
    rw [if_neg (by simpa using h0)]
    exact errR_all l fun j hj => by have := h (j + 1) (by simpa using hj); simpa using this

theorem readPc_err {l : List Nat} {e : Int} (h : errR l = e) (h2 : ¬ e = 0) : readPc l = (zp, e) := by
  subst h
  unfold readPc
  exact if_pos h2
theorem readPc_bad {l : List Nat} (h : ∀ j, j < l.length → (readR (l.getD j 0)).2 = 0) (h2 : ¬ (pk l l.length).wordsR = (l, 0)) : readPc l = (zp, 2) := by
  rw [pk_all] at h2
  unfold readPc
  exact (if_neg (by rw [errR_all l h]; simp)).trans (if_neg h2)
theorem readPc_good {l : List Nat} (h : ∀ j, j < l.length → (readR (l.getD j 0)).2 = 0) (h2 : (pk l l.length).wordsR = (l, 0)) : readPc l = (pk l l.length, 0) := by
  rw [pk_all] at h2 ⊢
  unfold readPc
  exact (if_neg (by rw [errR_all l h]; simp)).trans (if_pos h2)

theorem Bk.set {v : World} {b : Nat} {cs : Array Value} {t : TypeId} (h : Bk v b cs t) (j : Nat) (u : Value) : Bk (v.setCell ⟨b, j, none⟩ u) b (cs.setIfInBounds j u) t := by
  unfold Bk at h ⊢
  simp [World.setCell, Array.getElem?_modify, h]

theorem wpList_app_two {P : Program} {ops : Array Oper} {rest : List Oper} {o : Oper} {a : Act} {Q : Exit → Act → World → Prop} (hgd : o.guard = none) (s x : Operand) (t e : TypeId) (i : TypeInfo) (z : Value) (bytes : Nat)
    (ho : o.op = .call { callee := .builtin .append, args := #[s, x], argTypes := #[t, t] })
    (ht : P.underlying t = some (.slice e)) (hi : P.info? e = some i) (hz : i.zero = some z) (h1 : i.size = 2) (hby : i.bytes = bytes) (hzs : z.cells.size = 2) (hb8 : bytes ≤ 64)
    (B : Nat) (w : World) (v : Value) (n : Nat) (L : List Value) (p q : Int) (hs : a.eval s = v) (hown : OwnK e 2 w B v n L) (hx : a.eval x = .slice (some ⟨w.heap.size, 0, none⟩) 1 1)
    (hlen : n ≤ 1000000) (hbase : B ≤ w.heap.size)
    (h : ∀ v' w', OwnK e 2 w' B v' (n + 1) (L ++ [.int .i64 p, .int .i64 q]) → (w.alloc (.cells #[.int .i64 p, .int .i64 q] e)).grownBy w' v.ownBlock → wpList P ops Q rest (a.put o.dst v') w') :
    wpList P ops Q (o :: rest) a (w.alloc (.cells #[.int .i64 p, .int .i64 q] e)) := by
  refine wpList_append_own _ hgd s x t ho B e i z 2 bytes ht hi hz h1 hby hzs (by decide) v n L hs (World.ownsRow.alloc hown _) ⟨w.heap.size, 0, none⟩ 1 1 [.int .i64 p, .int .i64 q] hx rfl ?_ ?_ ?_ ?_ ?_ ?_
  · intro j y hj
    match j, hj with
    | 0, hj => simp at hj; subst hj; exact (World.cell?_alloc_at _ _ _ _ rfl).trans rfl
    | 1, hj => simp at hj; subst hj; exact (World.cell?_alloc_at _ _ _ _ rfl).trans rfl
  · intro y hy
    simp at hy
    rcases hy with rfl | rfl <;> rfl
  · unfold maxLen; omega
  · have : (n + 1) * bytes ≤ (n + 1) * 64 := Nat.mul_le_mul_left _ hb8
    omega
  · simp; omega
  · intro v' w' hown' hgrow _
    exact h v' w' hown' hgrow
end Go.Proofs.Ytockjijhckkicaa
