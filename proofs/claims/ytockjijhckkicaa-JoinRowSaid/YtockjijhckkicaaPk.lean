/-
  Packets by value, rows of packets; append of a row of structs. No function in it.
-/
import Derived.Test.YtockjijhckkicaaAppK
import Derived.Test.YtockjijhckkicaaAppRow
import Derived.Test.YtockjijhckkicaaGdP
namespace Go.Proofs.Ytockjijhckkicaa
open Go.RowKit

/-- A packet by value. -/
structure Pk where
  s : Int
  d : Int
  q : Int
  x : ByteArray
abbrev zpk : Pk := ⟨0, 0, 0, ByteArray.empty⟩
abbrev pkc (p : Pk) : Array Value := #[.int .i64 p.s, .int .i64 p.d, .int .i64 p.q, .string p.x]
abbrev pkv (p : Pk) : Value := .agg (pkc p)
/-- A row of packets, cell by cell. -/
def kcs (l : List Pk) : List Value := l.flatMap fun p => [.int .i64 p.s, .int .i64 p.d, .int .i64 p.q, .string p.x]
theorem kcs_len (l : List Pk) : (kcs l).length = l.length * 4 := by
  induction l with
  | nil => rfl
  | cons x l ih => simp only [kcs, List.flatMap_cons] at ih ⊢; rw [List.length_append, ih]; simp; omega
theorem kcs_app (l m : List Pk) : kcs (l ++ m) = kcs l ++ kcs m := by unfold kcs; rw [List.flatMap_append]
theorem kcs_one (l : List Pk) : ∀ u ∈ kcs l, u.oneCell' = true := by
  intro u hu
  unfold kcs at hu
  obtain ⟨p, _, hp⟩ := List.mem_flatMap.1 hu
  simp at hp
  rcases hp with rfl | rfl | rfl | rfl <;> rfl
theorem kcs_at : ∀ (l : List Pk) (k : Nat) (p : Pk), l[k]? = some p → (kcs l)[k * 4]? = some (.int .i64 p.s) ∧ (kcs l)[k * 4 + 1]? = some (.int .i64 p.d) ∧ (kcs l)[k * 4 + 2]? = some (.int .i64 p.q) ∧ (kcs l)[k * 4 + 3]? = some (.string p.x) := by
  intro l
  induction l with
  | nil => intro k p h; simp at h
  | cons h l ih =>
    intro k p hk
    cases k with
    | zero => simp at hk; subst hk; simp [kcs]
    | succ k =>
      have := ih k p (by simpa using hk)
      have e : kcs (h :: l) = .int .i64 h.s :: .int .i64 h.d :: .int .i64 h.q :: .string h.x :: kcs l := by simp [kcs]
      rw [e, show (k + 1) * 4 = k * 4 + 1 + 1 + 1 + 1 by omega, show k * 4 + 1 + 1 + 1 + 1 + 1 = (k * 4 + 1) + 1 + 1 + 1 + 1 by omega, show k * 4 + 1 + 1 + 1 + 1 + 2 = (k * 4 + 2) + 1 + 1 + 1 + 1 by omega, show k * 4 + 1 + 1 + 1 + 1 + 3 = (k * 4 + 3) + 1 + 1 + 1 + 1 by omega]
      simp only [List.getElem?_cons_succ]
      exact this
/-- One packet of a row that is read. -/
theorem Rd.pk {w : World} {a : Option Addr} {l : List Pk} {k : Nat} {p : Pk} (h : Rd w a (kcs l)) (hk : l[k]? = some p) : ∃ g o, a = some ⟨g, o, none⟩ ∧ g < w.heap.size ∧ w.cell? ⟨g, o + k * 4, none⟩ = some (.int .i64 p.s) ∧ w.cell? ⟨g, o + k * 4 + 1, none⟩ = some (.int .i64 p.d) ∧ w.cell? ⟨g, o + k * 4 + 2, none⟩ = some (.int .i64 p.q) ∧ w.cell? ⟨g, o + k * 4 + 3, none⟩ = some (.string p.x) := by
  obtain ⟨h0, h1, h2, h3⟩ := kcs_at l k p hk
  obtain ⟨g, o, rfl, hg, c0⟩ := h _ _ h0
  obtain ⟨g', o', e, _, c1⟩ := h _ _ h1
  simp only [Option.some.injEq, Addr.mk.injEq] at e
  obtain ⟨rfl, rfl, _⟩ := e
  obtain ⟨g', o', e, _, c2⟩ := h _ _ h2
  simp only [Option.some.injEq, Addr.mk.injEq] at e
  obtain ⟨rfl, rfl, _⟩ := e
  obtain ⟨g', o', e, _, c3⟩ := h _ _ h3
  simp only [Option.some.injEq, Addr.mk.injEq] at e
  obtain ⟨rfl, rfl, _⟩ := e
  exact ⟨g, o, rfl, hg, c0, by rw [Nat.add_assoc]; exact c1, by rw [Nat.add_assoc]; exact c2, by rw [Nat.add_assoc]; exact c3⟩
/-- A parcel's packets. -/
def pks (P : Pc) : List Pk := P.hs.map fun h => ⟨P.s, h.1, h.2, P.x⟩
theorem kc_kcs (P : Pc) : kc P.s P.x P.hs = kcs (pks P) := by
  unfold kc kcs pks
  rw [List.flatMap_map]
theorem pks_len (P : Pc) : (pks P).length = P.hs.length := by unfold pks; rw [List.length_map]

/-- append of a row of structs that is read. -/
theorem wpList_app_rowk {P : Program} {ops : Array Oper} {rest : List Oper} {o : Oper} {a : Act} {Q : Exit → Act → World → Prop} (hgd : o.guard = none) (s x : Operand) (t e : TypeId) (i : TypeInfo) (z : Value) (k bytes : Nat)
    (ho : o.op = .call { callee := .builtin .append, args := #[s, x], argTypes := #[t, t] })
    (ht : P.underlying t = some (.slice e)) (hi : P.info? e = some i) (hz : i.zero = some z) (h1 : i.size = k) (hby : i.bytes = bytes) (hzs : z.cells.size = k) (hk0 : 0 < k) (hb8 : bytes ≤ 64)
    (B : Nat) (w : World) (v : Value) (n : Nat) (xs : List Value) (hs : a.eval s = v) (hown : OwnK e k w B v n xs) (g q m c : Nat) (hx : a.eval x = .slice (some ⟨g, q, none⟩) m c) (ys : List Value) (hm : ys.length = m * k) (hr : Rd w (some ⟨g, q, none⟩) ys) (hone : ∀ u ∈ ys, u.oneCell' = true)
    (hlen : n + m ≤ 1000000) (hbase : B ≤ w.heap.size)
    (h : ∀ v' w', OwnK e k w' B v' (n + m) (xs ++ ys) → w.grownBy w' v.ownBlock → wpList P ops Q rest (a.put o.dst v') w') : wpList P ops Q (o :: rest) a w := by
  refine wpList_append_own _ hgd s x t ho B e i z k bytes ht hi hz h1 hby hzs hk0 v n xs hs hown ⟨g, q, none⟩ m c ys hx hm ?_ hone ?_ ?_ hbase ?_
  · intro j u hj
    obtain ⟨g', o', e1, _, h3⟩ := hr j u hj
    simp only [Option.some.injEq, Addr.mk.injEq] at e1
    obtain ⟨rfl, rfl, _⟩ := e1
    rw [WideShapes.add_plain]
    exact h3
  · unfold maxLen; omega
  · have : (n + m) * bytes ≤ (n + m) * 64 := Nat.mul_le_mul_left _ hb8
    omega
  · intro v' w' hown' hgrow _
    exact h v' w' hown' hgrow
/-- Where a row that is not empty lies. -/
theorem Rd.at0 {w : World} {a : Option Addr} {l : List Value} (h : Rd w a l) (hl : 0 < l.length) : ∃ g o, a = some ⟨g, o, none⟩ := by
  obtain ⟨g, o, e, _⟩ := h 0 _ (List.getElem?_eq_getElem hl)
  exact ⟨g, o, e⟩

/-- Parcels that came in, as a row. -/
def PsRd (w : World) (a : Option Addr) (ps : List Pc) : Prop := ∀ j p, ps[j]? = some p → ∃ g o, a = some ⟨g, o, none⟩ ∧ g < w.heap.size ∧
  w.cell? ⟨g, o + j * 4, none⟩ = some (.int .i64 p.s) ∧ w.cell? ⟨g, o + j * 4 + 1, none⟩ = some (.bool p.c) ∧ w.cell? ⟨g, o + j * 4 + 3, none⟩ = some (.string p.x) ∧
  ∃ a' cap', w.cell? ⟨g, o + j * 4 + 2, none⟩ = some (.slice a' p.hs.length cap') ∧ p.hs.length ≤ maxLen ∧ p.x.size ≤ maxLen ∧ Rd w a' (pc p.hs)
theorem PsRd.below {w w' : World} {a : Option Addr} {ps : List Pc} (h : PsRd w a ps) (hb : Below w.heap.size w w') : PsRd w' a ps := fun j p hj => by
  obtain ⟨g, o, rfl, hg, c0, c1, c3, a', cap', c2, h1, h2, h3⟩ := h j p hj
  exact ⟨g, o, rfl, Nat.lt_of_lt_of_le hg hb.size, (hb.cell (p := ⟨g, _, none⟩) hg).trans c0, (hb.cell (p := ⟨g, _, none⟩) hg).trans c1, (hb.cell (p := ⟨g, _, none⟩) hg).trans c3, a', cap', (hb.cell (p := ⟨g, _, none⟩) hg).trans c2, h1, h2, h3.below hb⟩
end Go.Proofs.Ytockjijhckkicaa
