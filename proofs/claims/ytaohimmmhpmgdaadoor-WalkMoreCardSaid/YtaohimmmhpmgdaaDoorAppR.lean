/-
  append of a row to a row of the call's own, as a law: at an operation, in a plain region, at a step of a region that draws. No function in it.
-/
import Derived.Test.YtaohimmmhpmgdaaDoorRd
import Derived.Maps.AppendAt
import Derived.Laws.OwnMore
namespace Go.Proofs.YtaohimmmhpmgdaaDoor
open Go.RowKit

theorem run_app_rows {P : Program} (t ty e : TypeId) (i : TypeInfo) (z : Value) (bytes : Nat) (ht : P.underlying t = some (.slice e)) (hi : P.info? e = some i) (hz : i.zero = some z) (h1 : i.size = 1) (hby : i.bytes = bytes) (hzs : z.cells.size = 1) (hb8 : bytes ≤ 64)
    (B : Nat) (w : World) (v : Value) (xs : List Value) (hown : Own e w B v xs) (a : Option Addr) (m c : Nat) (ys : List Value) (hm : ys.length = m) (hr : RdA w a ys) (hno : a = none → m = 0 ∧ c = 0) (hsp : ∀ x, a = some x → x.spot = none) (hone : ∀ u ∈ ys, u.oneCell' = true)
    (hlen : xs.length + m ≤ 1000000) (hbase : B ≤ w.heap.size) :
    ∃ v' w', (Builtin.append_ #[t, t] ty #[v, .slice a m c]).run P w = .ok v' w' ∧ Own e w' B v' (xs ++ ys) ∧ w.grownBy w' v.ownBlock ∧ (v'.ownBlock = v.ownBlock ∨ v'.ownBlock = some w.heap.size) := by
  cases a with
  | none =>
    obtain ⟨rfl, rfl⟩ := hno rfl
    have e0 : ys = [] := List.eq_nil_of_length_eq_zero hm
    subst e0
    refine ⟨v, w, run_append_owned_none w B t ty e i 1 ht hi v xs.length xs hown, by rw [List.append_nil]; exact hown, ⟨rfl, rfl, rfl, Nat.le_refl _, fun _ _ _ => rfl⟩, Or.inl rfl⟩
  | some ad =>
    have hs := hsp ad rfl
    obtain ⟨g, o, sp⟩ := ad
    simp only at hs
    subst hs
    have hnews : ∀ (j : Nat) (u : Value), ys[j]? = some u → w.cell? ((⟨g, o, none⟩ : Addr).add j) = some u := by
      intro j u hj
      obtain ⟨g', o', e1, _, h3⟩ := hr j u hj
      simp only [Option.some.injEq, Addr.mk.injEq] at e1
      obtain ⟨rfl, rfl, _⟩ := e1
      rw [WideShapes.add_plain]
      exact h3
    have hmax : xs.length + m ≤ maxLen := by unfold maxLen; omega
    have hbytes : (xs.length + m) * bytes ≤ 140737488355328 := by
      have : (xs.length + m) * bytes ≤ (xs.length + m) * 64 := Nat.mul_le_mul_left _ hb8
      omega
    obtain ⟨v', w', h2, h3, h4, _, h5⟩ := run_append_own_at (P := P) w B t ty e i z 1 bytes ht hi hz h1 hby hzs (by decide) v xs.length xs hown ⟨g, o, none⟩ m c ys (by rw [hm, Nat.mul_one]) hnews hone hmax hbytes hbase
    refine ⟨v', w', h2, ?_, h4, h5⟩
    unfold Own
    rw [List.length_append, hm]
    exact h3

theorem wp_app_rows {P : Program} {o : Oper} {a : Act} {K : Act → World → Prop} {Q : Exit → Act → World → Prop} (s x : Operand) (t e : TypeId) (i : TypeInfo) (z : Value) (bytes : Nat)
    (ho : o.op = .call { callee := .builtin .append, args := #[s, x], argTypes := #[t, t] })
    (ht : P.underlying t = some (.slice e)) (hi : P.info? e = some i) (hz : i.zero = some z) (h1 : i.size = 1) (hby : i.bytes = bytes) (hzs : z.cells.size = 1) (hb8 : bytes ≤ 64)
    (B : Nat) (w : World) (v : Value) (xs : List Value) (hs : a.eval s = v) (hown : Own e w B v xs) (ad : Option Addr) (m c : Nat) (hx : a.eval x = .slice ad m c) (ys : List Value) (hm : ys.length = m) (hr : RdA w ad ys) (hno : ad = none → m = 0 ∧ c = 0) (hsp : ∀ x, ad = some x → x.spot = none) (hone : ∀ u ∈ ys, u.oneCell' = true)
    (hlen : xs.length + m ≤ 1000000) (hbase : B ≤ w.heap.size)
    (h : ∀ v' w', Own e w' B v' (xs ++ ys) → w.grownBy w' v.ownBlock → (v'.ownBlock = v.ownBlock ∨ v'.ownBlock = some w.heap.size) → K (a.put o.dst v') w') : o.wp P a w K Q := by
  obtain ⟨v', w', hrun, h2, h3, h4⟩ := run_app_rows (P := P) t o.type e i z bytes ht hi hz h1 hby hzs hb8 B w v xs hown ad m c ys hm hr hno hsp hone hlen hbase
  unfold Oper.wp execOp
  simp only [ho, resolve, invoke, builtin, Sem.run_bind, Sem.run_pure, Result.andThen_ok, List.map_toArray, List.map_cons, List.map_nil, hs, hx, hrun]
  exact h v' w' h2 h3 h4

theorem wpList_app_rows {P : Program} {ops : Array Oper} {rest : List Oper} {o : Oper} {a : Act} {Q : Exit → Act → World → Prop} (hgd : o.guard = none) (s x : Operand) (t e : TypeId) (i : TypeInfo) (z : Value) (bytes : Nat)
    (ho : o.op = .call { callee := .builtin .append, args := #[s, x], argTypes := #[t, t] })
    (ht : P.underlying t = some (.slice e)) (hi : P.info? e = some i) (hz : i.zero = some z) (h1 : i.size = 1) (hby : i.bytes = bytes) (hzs : z.cells.size = 1) (hb8 : bytes ≤ 64)
    (B : Nat) (w : World) (v : Value) (xs : List Value) (hs : a.eval s = v) (hown : Own e w B v xs) (ad : Option Addr) (m c : Nat) (hx : a.eval x = .slice ad m c) (ys : List Value) (hm : ys.length = m) (hr : RdA w ad ys) (hno : ad = none → m = 0 ∧ c = 0) (hsp : ∀ x, ad = some x → x.spot = none) (hone : ∀ u ∈ ys, u.oneCell' = true)
    (hlen : xs.length + m ≤ 1000000) (hbase : B ≤ w.heap.size)
    (h : ∀ v' w', Own e w' B v' (xs ++ ys) → w.grownBy w' v.ownBlock → (v'.ownBlock = v.ownBlock ∨ v'.ownBlock = some w.heap.size) → wpList P ops Q rest (a.put o.dst v') w') : wpList P ops Q (o :: rest) a w :=
  wpList_plain hgd fun _ hK => wp_app_rows s x t e i z bytes ho ht hi hz h1 hby hzs hb8 B w v xs hs hown ad m c hx ys hm hr hno hsp hone hlen hbase fun v' w' h2 h3 h4 => hK _ _ (h v' w' h2 h3 h4)

theorem vi_one (l : List Int) : ∀ u ∈ vi l, u.oneCell' = true := by
  intro u hu
  obtain ⟨n, _, rfl⟩ := List.mem_map.1 hu
  rfl
/-- A new block of one number reads as a row of one. -/
theorem RdA.new1 (w : World) (n : Int) : RdA (w.alloc (.cells #[.int .i64 n] 3)) (some ⟨w.heap.size, 0, none⟩) (vi [n]) := fun j x hj =>
  ⟨w.heap.size, 0, rfl, by simp, by rw [Nat.zero_add, cell_of (heap_alloc_new w _)]; simpa [vi] using hj⟩
theorem own_new1 (w : World) (B : Nat) (n : Int) (hb : B ≤ w.heap.size) : Own 3 (w.alloc (.cells #[.int .i64 n] 3)) B (.slice (some ⟨w.heap.size, 0, none⟩) 1 1) (vi [n]) := Own.lit (e := 3) (w := w) (B := B) #[.int .i64 n] hb (by simp)
theorem Own.src {w : World} {B : Nat} {v : Value} {l : List Int} (h : Own 3 w B v (vi l)) : ∃ a c, v = .slice a l.length c ∧ RdA w a (vi l) ∧ (a = none → l.length = 0 ∧ c = 0) ∧ (∀ x, a = some x → x.spot = none) := by
  have h0 := h
  obtain ⟨a, cap, e, _, _, r⟩ := h0.rd
  rw [vi_len] at e
  refine ⟨a, cap, e, RdA.of r, ?_, ?_⟩
  · rintro rfl
    rcases h.2 with ⟨rfl, _⟩ | ⟨g, cap', cur, rfl, _⟩
    · simp only [Value.slice.injEq] at e
      exact ⟨e.2.1.symm, e.2.2.symm⟩
    · simp at e
  · rintro x rfl
    rcases h.2 with ⟨rfl, _⟩ | ⟨g, cap', cur, rfl, _⟩
    · simp at e
    · simp only [Value.slice.injEq, Option.some.injEq] at e
      rw [← e.1]
end Go.Proofs.YtaohimmmhpmgdaaDoor
