/-
  Rows of packets of a law's own; append of a row to a row, and where it lies behind it. No call in it.
-/
import Derived.Test.YtpmkpjnhdehnhaaIOps
import Derived.Laws.AppendOwnNone
namespace Go.Proofs.Ytpmkpjnhdehnhaa
open Go.RowKit

theorem wpList_src_at {P : Program} {ops : Array Oper} {rest : List Oper} {o : Oper} {a : Act} {Q : Exit → Act → World → Prop} (hgd : o.guard = none) (s x : Operand) (t e : TypeId) (i : TypeInfo) (z : Value) (k bytes : Nat)
    (ho : o.op = .call { callee := .builtin .append, args := #[s, x], argTypes := #[t, t] })
    (ht : P.underlying t = some (.slice e)) (hi : P.info? e = some i) (hz : i.zero = some z) (h1 : i.size = k) (hby : i.bytes = bytes) (hzs : z.cells.size = k) (hk0 : 0 < k) (hb8 : bytes ≤ 64)
    (B : Nat) (w : World) (v : Value) (n : Nat) (cs : List Value) (hs : a.eval s = v) (hown : OwnK e k w B v n cs) (ax : Option Addr) (m c : Nat) (hx : a.eval x = .slice ax m c) (hnil : ax = none → m = 0 ∧ c = 0) (ys : List Value) (hm : ys.length = m * k) (hr : Rd w ax ys) (hone : ∀ u ∈ ys, u.oneCell' = true)
    (hlen : n + m ≤ 1000000) (hbase : B ≤ w.heap.size)
    (h : ∀ v' w', OwnK e k w' B v' (n + m) (cs ++ ys) → w.grownBy w' v.ownBlock → (v'.ownBlock = v.ownBlock ∨ v'.ownBlock = some w.heap.size) → wpList P ops Q rest (a.put o.dst v') w') : wpList P ops Q (o :: rest) a w := by
  cases ax with
  | none =>
    obtain ⟨rfl, rfl⟩ := hnil rfl
    rw [Nat.zero_mul] at hm
    obtain rfl := List.eq_nil_of_length_eq_zero hm
    refine wpList_append_own_none hgd s x t ho B e i k ht hi v n cs hs hown hx (h v w ?_ ⟨rfl, rfl, rfl, Nat.le_refl _, fun _ _ _ => rfl⟩ (Or.inl rfl))
    rw [List.append_nil]
    exact hown
  | some ad =>
    refine wpList_append_own_at w hgd s x t ho B e i z k bytes ht hi hz h1 hby hzs hk0 v n cs hs hown ad m c ys hx hm ?_ hone ?_ ?_ hbase (fun v' w' p1 p2 _ p4 => h v' w' p1 p2 p4)
    · intro j u hj
      obtain ⟨g', o', e1, _, h3⟩ := hr j u hj
      simp only [Option.some.injEq] at e1
      subst e1
      rw [WideShapes.add_plain]
      exact h3
    · unfold maxLen; omega
    · have : (n + m) * bytes ≤ (n + m) * 64 := Nat.mul_le_mul_left _ hb8
      omega
/-- One element more, which lies in a block of its own. -/
theorem wpList_new_at {P : Program} {ops : Array Oper} {rest : List Oper} {o : Oper} {a : Act} {Q : Exit → Act → World → Prop} (hgd : o.guard = none) (s x : Operand) (t e : TypeId) (i : TypeInfo) (z : Value) (k bytes : Nat)
    (ho : o.op = .call { callee := .builtin .append, args := #[s, x], argTypes := #[t, t] })
    (ht : P.underlying t = some (.slice e)) (hi : P.info? e = some i) (hz : i.zero = some z) (h1 : i.size = k) (hby : i.bytes = bytes) (hzs : z.cells.size = k) (hk0 : 0 < k) (hb8 : bytes ≤ 64)
    (B : Nat) (w : World) (v : Value) (n : Nat) (cs news : List Value) (g : Nat) (hs : a.eval s = v) (hown : OwnK e k w B v n cs) (hx : a.eval x = .slice (some ⟨g, 0, none⟩) 1 1) (et : TypeId) (hg : Bk w g news.toArray et)
    (hl : news.length = k) (hone : ∀ u ∈ news, u.oneCell' = true) (hlen : n ≤ 1000000) (hbase : B ≤ w.heap.size)
    (h : ∀ v' w', OwnK e k w' B v' (n + 1) (cs ++ news) → w.grownBy w' v.ownBlock → (v'.ownBlock = v.ownBlock ∨ v'.ownBlock = some w.heap.size) → wpList P ops Q rest (a.put o.dst v') w') : wpList P ops Q (o :: rest) a w := by
  refine wpList_append_own_at w hgd s x t ho B e i z k bytes ht hi hz h1 hby hzs hk0 v n cs hs hown ⟨g, 0, none⟩ 1 1 news hx (by rw [hl, Nat.one_mul]) ?_ hone ?_ ?_ hbase (fun v' w' p1 p2 _ p4 => h v' w' p1 p2 p4)
  · intro j u hj
    rw [WideShapes.add_plain, Nat.zero_add, hg.cell j]
    simpa using hj
  · unfold maxLen; omega
  · have : (n + 1) * bytes ≤ (n + 1) * 64 := Nat.mul_le_mul_left _ hb8
    omega
/-- Packets, cell by cell. -/
abbrev pkcs (l : List Pk) : List Value := l.flatMap pk4
theorem pkcs_one (l : List Pk) : ∀ u ∈ pkcs l, u.oneCell' = true := by
  intro u hu
  obtain ⟨p, _, hp⟩ := List.mem_flatMap.1 hu
  simp at hp
  rcases hp with rfl | rfl | rfl | rfl <;> rfl
theorem pkcs_len (l : List Pk) : (pkcs l).length = l.length * 4 := RP.cc_len l
theorem pkcs_app (l m : List Pk) : pkcs (l ++ m) = pkcs l ++ pkcs m := List.flatMap_append
section
variable {w : World} {a : Option Addr} {l A B : List Pk} {k : Nat} {p : Pk}
/-- One packet of a row that is read. -/
theorem rd_pk (h : Rd w a (pkcs l)) (hk : l[k]? = some p) : ∃ g o, a = some ⟨g, o, none⟩ ∧ g < w.heap.size ∧ w.cell? ⟨g, o + k * 4, none⟩ = some (.int .i64 p.s) ∧ w.cell? ⟨g, o + k * 4 + 1, none⟩ = some (.int .i64 p.d) ∧ w.cell? ⟨g, o + k * 4 + 2, none⟩ = some (.int .i64 p.q) ∧ w.cell? ⟨g, o + k * 4 + 3, none⟩ = some (.string p.x) := by
  obtain ⟨h0, h1, h2, h3⟩ := RP.cc_at l k p hk
  obtain ⟨g, o, rfl, hg, c0⟩ := h _ _ h0
  have key : ∀ j v, (pkcs l)[k * 4 + j]? = some v → w.cell? ⟨g, o + k * 4 + j, none⟩ = some v := fun j v hv => by
    obtain ⟨g', o', e, _, c⟩ := h _ _ hv
    simp only [Option.some.injEq, Addr.mk.injEq] at e
    obtain ⟨rfl, rfl, _⟩ := e
    rw [Nat.add_assoc]
    exact c
  exact ⟨g, o, rfl, hg, c0, key 1 _ h1, key 2 _ h2, key 3 _ h3⟩
theorem rd_left (h : Rd w a (pkcs (A ++ B))) : Rd w a (pkcs A) := fun j v hj => h j v (by
  rw [pkcs_app, List.getElem?_append_left (List.getElem?_eq_some_iff.1 hj).1]
  exact hj)
theorem rd_right {g o : Nat} (h : Rd w (some ⟨g, o, none⟩) (pkcs (A ++ B))) : Rd w (some ⟨g, o + A.length * 4, none⟩) (pkcs B) := fun j v hj => by
  obtain ⟨g', o', e, hg, c⟩ := h (A.length * 4 + j) v (by
    rw [pkcs_app, List.getElem?_append_right (by rw [pkcs_len]; omega), pkcs_len]
    rw [show A.length * 4 + j - A.length * 4 = j by omega]
    exact hj)
  simp only [Option.some.injEq, Addr.mk.injEq] at e
  obtain ⟨rfl, rfl, _⟩ := e
  exact ⟨g, o + A.length * 4, rfl, hg, by rw [Nat.add_assoc]; exact c⟩
theorem rd_none (w : World) (a : Option Addr) : Rd w a (pkcs []) := fun j v hj => by cases hj
end
/-- A row of packets of the law's own, whose block is among those that are kept. -/
structure OwP (w : World) (B : Nat) (O : Nat → Prop) (v : Value) (l : List Pk) : Prop where
  o : OwnK 33 4 w B v l.length (pkcs l)
  b : ∀ q, v.ownBlock = some q → O q
section
variable {w w' : World} {B : Nat} {O O' : Nat → Prop} {v : Value} {l : List Pk}
theorem OwP.nil (w : World) (B : Nat) (O : Nat → Prop) : OwP w B O (.slice none 0 0) [] := ⟨OwnK.nil _ _ _ _, fun q h => by simp [Value.ownBlock] at h⟩
theorem OwP.kp (h : OwP w B O v l) (k : Kp O w w') : OwP w' B O v l := ⟨h.o.kp k h.b, h.b⟩
theorem OwP.next (h : OwP w B O v l) (k : Below w.heap.size w w') : OwP w' B O v l := ⟨h.o.below k, h.b⟩
theorem OwP.more (h : OwP w B O v l) (k : ∀ g, O g → O' g) : OwP w B O' v l := ⟨h.o, fun q hq => k q (h.b q hq)⟩
theorem OwP.rd (h : OwP w B O v l) : ∃ a cap, v = .slice a l.length cap ∧ l.length ≤ cap ∧ cap ≤ maxLen ∧ Rd w a (pkcs l) := OwnK.rd h.o (by decide)
theorem OwP.nocap (h : OwP w B O v l) {n cap : Nat} (e : v = .slice none n cap) : n = 0 ∧ cap = 0 := by
  rcases h.o.2 with ⟨h1, _⟩ | ⟨g, c, cur, h1, _⟩
  · rw [e] at h1
    simp only [Value.slice.injEq, true_and] at h1
    exact h1
  · rw [e] at h1
    simp at h1
/-- While another block turns. -/
theorem OwP.grown {r : Option Nat} (h : OwP w B O v l) (hg : w.grownBy w' r) (hr : v.ownBlock = none ∨ v.ownBlock ≠ r) : OwP w' B O v l := ⟨World.ownsRow.kept h.o hg hr, h.b⟩
end
theorem Try.info33' : (Try.prog.info? 33).map (fun i => (i.zero, i.size, i.bytes)) = some (some (.agg #[.int .i64 0, .int .i64 0, .int .i64 0, .string ⟨#[]⟩]), 4, 40) := by kernel_rfl
end Go.Proofs.Ytpmkpjnhdehnhaa
