/-
  append of a row that is read; rows of words. No function in it.
-/
import Derived.Test.YtkigeakaedkjpaaVw
namespace Go.Proofs.Ytkigeakaedkjpaa
open Go.RowKit

theorem vw_one (l : List Nat) : ∀ u ∈ vw l, u.oneCell' = true := by
  intro u hu
  obtain ⟨n, _, rfl⟩ := List.mem_map.1 hu
  rfl
/-- append of a row that is read. -/
theorem wpList_app_row {P : Program} {ops : Array Oper} {rest : List Oper} {o : Oper} {a : Act} {Q : Exit → Act → World → Prop} (hgd : o.guard = none) (s x : Operand) (t e : TypeId) (i : TypeInfo) (z : Value) (bytes : Nat)
    (ho : o.op = .call { callee := .builtin .append, args := #[s, x], argTypes := #[t, t] })
    (ht : P.underlying t = some (.slice e)) (hi : P.info? e = some i) (hz : i.zero = some z) (h1 : i.size = 1) (hby : i.bytes = bytes) (hzs : z.cells.size = 1) (hb8 : bytes ≤ 64)
    (B : Nat) (w : World) (v : Value) (xs : List Value) (hs : a.eval s = v) (hown : Own e w B v xs) (g q m c : Nat) (hx : a.eval x = .slice (some ⟨g, q, none⟩) m c) (ys : List Value) (hm : ys.length = m) (hr : Rd w (some ⟨g, q, none⟩) ys) (hone : ∀ u ∈ ys, u.oneCell' = true)
    (hlen : xs.length + m ≤ 1000000) (hbase : B ≤ w.heap.size)
    (h : ∀ v' w', Own e w' B v' (xs ++ ys) → w.grownBy w' v.ownBlock → wpList P ops Q rest (a.put o.dst v') w') : wpList P ops Q (o :: rest) a w := by
  refine wpList_append_own _ hgd s x t ho B e i z 1 bytes ht hi hz h1 hby hzs (by decide) v xs.length xs hs hown ⟨g, q, none⟩ m c ys hx (by rw [hm, Nat.mul_one]) ?_ hone ?_ ?_ hbase ?_
  · intro j u hj
    obtain ⟨g', o', e1, _, h3⟩ := hr j u hj
    simp only [Option.some.injEq, Addr.mk.injEq] at e1
    obtain ⟨rfl, rfl, _⟩ := e1
    rw [WideShapes.add_plain]
    exact h3
  · unfold maxLen; omega
  · have : (xs.length + m) * bytes ≤ (xs.length + m) * 64 := Nat.mul_le_mul_left _ hb8
    omega
  · intro v' w' hown' hgrow _
    refine h v' w' ?_ hgrow
    unfold Own
    rw [List.length_append, hm]
    exact hown'
theorem vw_take (l : List Nat) (k : Nat) : vw (l.take k) = (vw l).take k := by unfold vw; rw [List.map_take]
theorem vw_drop (l : List Nat) (k : Nat) : vw (l.drop k) = (vw l).drop k := by unfold vw; rw [List.map_drop]
theorem vw_app (l m : List Nat) : vw (l ++ m) = vw l ++ vw m := by unfold vw; rw [List.map_append]
theorem Rd.off0 {w : World} {g o o' : Nat} {l : List Value} (h : l = []) (_ : Rd w (some ⟨g, o, none⟩) l) : Rd w (some ⟨g, o', none⟩) l := by
  subst h
  intro j v hj
  simp at hj
theorem Rd.rdrop {w : World} {g o : Nat} {l : List Value} (h : Rd w (some ⟨g, o, none⟩) l) (k : Nat) : Rd w (some ⟨g, o + k, none⟩) (l.drop k) := by
  intro j v hj
  rw [List.getElem?_drop] at hj
  obtain ⟨g', o', e, hg, hc⟩ := h _ v hj
  simp only [Option.some.injEq, Addr.mk.injEq] at e
  obtain ⟨rfl, rfl, _⟩ := e
  exact ⟨g, o + k, rfl, hg, by rw [Nat.add_assoc]; exact hc⟩
theorem Rd.lies {w : World} {a : Option Addr} {l : List Value} (h : Rd w a l) (hl : 0 < l.length) : ∃ g o, a = some ⟨g, o, none⟩ := by
  obtain ⟨g, o, e, _⟩ := h 0 _ (List.getElem?_eq_getElem hl)
  exact ⟨g, o, e⟩
end Go.Proofs.Ytkigeakaedkjpaa
