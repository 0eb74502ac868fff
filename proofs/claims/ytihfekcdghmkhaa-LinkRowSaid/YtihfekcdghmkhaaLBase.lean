/-
  Rows of numbers and of words that may be nil, appended to a row of the call's own; the document's link as lists. No function in it.
-/
import Derived.Test.YtihfekcdghmkhaaFBase
import Derived.Test.YtihfekcdghmkhaaRcRep
import Derived.Laws.AppendOwnNone
namespace Go.Proofs.Ytihfekcdghmkhaa
open Go.RowKit
open RC (Cl cc cv zc cc_len cc_at)

/-- append of a row that came in, which may be nil: elements of k cells. -/
theorem wpList_app_srck {P : Program} {ops : Array Oper} {rest : List Oper} {o : Oper} {a : Act} {Q : Exit → Act → World → Prop} (hgd : o.guard = none) (s x : Operand) (t e : TypeId) (i : TypeInfo) (z : Value) (k bytes : Nat)
    (ho : o.op = .call { callee := .builtin .append, args := #[s, x], argTypes := #[t, t] })
    (ht : P.underlying t = some (.slice e)) (hi : P.info? e = some i) (hz : i.zero = some z) (h1 : i.size = k) (hby : i.bytes = bytes) (hzs : z.cells.size = k) (hk0 : 0 < k) (hb8 : bytes ≤ 64)
    (B : Nat) (w : World) (v : Value) (n : Nat) (cs : List Value) (hs : a.eval s = v) (hown : OwnK e k w B v n cs) (ax : Option Addr) (m c : Nat) (hx : a.eval x = .slice ax m c) (hnil : ax = none → m = 0 ∧ c = 0) (ys : List Value) (hm : ys.length = m * k) (hr : Rd w ax ys) (hone : ∀ u ∈ ys, u.oneCell' = true)
    (hlen : n + m ≤ 1000000) (hbase : B ≤ w.heap.size)
    (h : ∀ v' w', OwnK e k w' B v' (n + m) (cs ++ ys) → w.grownBy w' v.ownBlock → wpList P ops Q rest (a.put o.dst v') w') : wpList P ops Q (o :: rest) a w := by
  cases ax with
  | none =>
    obtain ⟨rfl, rfl⟩ := hnil rfl
    rw [Nat.zero_mul] at hm
    obtain rfl := List.eq_nil_of_length_eq_zero hm
    refine wpList_append_own_none hgd s x t ho B e i k ht hi v n cs hs hown hx (h v w ?_ ⟨rfl, rfl, rfl, Nat.le_refl _, fun _ _ _ => rfl⟩)
    rw [List.append_nil]
    exact hown
  | some ad =>
    refine wpList_append_own _ hgd s x t ho B e i z k bytes ht hi hz h1 hby hzs hk0 v n cs hs hown ad m c ys hx hm ?_ hone ?_ ?_ hbase ?_
    · intro j u hj
      obtain ⟨g', o', e1, _, h3⟩ := hr j u hj
      simp only [Option.some.injEq] at e1
      subst e1
      rw [WideShapes.add_plain]
      exact h3
    · unfold maxLen; omega
    · have : (n + m) * bytes ≤ (n + m) * 64 := Nat.mul_le_mul_left _ hb8
      omega
    · intro v' w' hown' hgrow _
      exact h v' w' hown' hgrow
/-- append of one element of k cells, written out in a new block. -/
theorem wpList_app_k {P : Program} {ops : Array Oper} {rest : List Oper} {o : Oper} {a : Act} {Q : Exit → Act → World → Prop} (hgd : o.guard = none) (s x : Operand) (t e : TypeId) (i : TypeInfo) (z : Value) (k bytes : Nat)
    (ho : o.op = .call { callee := .builtin .append, args := #[s, x], argTypes := #[t, t] })
    (ht : P.underlying t = some (.slice e)) (hi : P.info? e = some i) (hz : i.zero = some z) (h1 : i.size = k) (hby : i.bytes = bytes) (hzs : z.cells.size = k) (hk0 : 0 < k) (hb8 : bytes ≤ 64)
    (B : Nat) (w : World) (v : Value) (n : Nat) (L news : List Value) (hs : a.eval s = v) (hown : OwnK e k w B v n L) (hx : a.eval x = .slice (some ⟨w.heap.size, 0, none⟩) 1 1)
    (hl : news.length = k) (hone : ∀ u ∈ news, u.oneCell' = true) (hlen : n ≤ 1000000) (hbase : B ≤ w.heap.size)
    (h : ∀ v' w', OwnK e k w' B v' (n + 1) (L ++ news) → (w.alloc (.cells news.toArray e)).grownBy w' v.ownBlock → wpList P ops Q rest (a.put o.dst v') w') :
    wpList P ops Q (o :: rest) a (w.alloc (.cells news.toArray e)) := by
  refine wpList_append_own _ hgd s x t ho B e i z k bytes ht hi hz h1 hby hzs hk0 v n L hs (World.ownsRow.alloc hown _) ⟨w.heap.size, 0, none⟩ 1 1 news hx (by rw [hl, Nat.one_mul]) ?_ hone ?_ ?_ ?_ ?_
  · intro j y hj
    rw [WideShapes.add_plain, Nat.zero_add, cell_of (heap_alloc_new w (.cells news.toArray e)) j]
    simpa using hj
  · unfold maxLen; omega
  · have : (n + 1) * bytes ≤ (n + 1) * 64 := Nat.mul_le_mul_left _ hb8
    omega
  · simp; omega
  · intro v' w' hown' hgrow _
    exact h v' w' hown' hgrow

def vi (l : List Int) : List Value := l.map fun n => .int .i64 n
theorem vi_len (l : List Int) : (vi l).length = l.length := List.length_map ..
theorem vi_at {l : List Int} {k : Nat} (h : k < l.length) : (vi l)[k]? = some (.int .i64 (l.getD k 0)) := by simp [vi, h]
theorem vi_one (l : List Int) : ∀ u ∈ vi l, u.oneCell' = true := by
  intro u hu
  obtain ⟨n, _, rfl⟩ := List.mem_map.1 hu
  rfl
theorem vi_set (l : List Int) (k : Nat) (x : Int) : vi (l.set k x) = (vi l).set k (.int .i64 x) := by unfold vi; rw [List.map_set]
theorem cc_one (l : List Cl) : ∀ u ∈ l.flatMap cc, u.oneCell' = true := by
  intro u hu
  obtain ⟨x, _, hx⟩ := List.mem_flatMap.1 hu
  simp at hx
  rcases hx with rfl | rfl <;> rfl
/-- A link as lists: lanes, depth, ring; credits; words; how many are at the far end; credits that come back. -/
structure LS where
  n : Nat
  d : Nat
  r : Nat
  cr : List Int
  ws : List Cl
  far : List Int
  bk : List Int
/-- The document's link, as a value, reads so. -/
def lsv (S : LS) (a1 a2 a3 a4 : Option Addr) (c1 c2 c3 c4 : Nat) : Value := .agg #[.int .i64 (S.n : Int), .int .i64 (S.d : Int), .int .i64 (S.r : Int), .slice a1 S.cr.length c1, .slice a2 S.ws.length c2, .slice a3 S.far.length c3, .slice a4 S.bk.length c4]
/-- Where a row's block comes from: it was there, or it is new. -/
def New (B M : Nat) (a : Option Addr) : Prop := ∀ x, a = some x → B ≤ x.block ∧ x.block < M
theorem New.mono {B B' M : Nat} {a : Option Addr} (h : New B M a) (hb : B' ≤ B) : New B' M a := fun x e => ⟨Nat.le_trans hb (h x e).1, (h x e).2⟩
theorem New.of {e : TypeId} {k : Nat} {w : World} {B n m c : Nat} {a : Option Addr} {l : List Value} (h : OwnK e k w B (.slice a m c) n l) : New B w.heap.size a := fun x hx => by
  rcases h.2 with ⟨hn, _⟩ | ⟨g, cap, cur, e2, hg, hh, _⟩
  · injection hn with h1 _ _
    rw [h1] at hx
    cases hx
  · injection e2 with h1 _ _
    rw [h1] at hx
    cases hx
    exact ⟨hg, lt_of_heap hh⟩
def Fro (B M : Nat) (a b : Option Addr) : Prop := ∀ x, b = some x → (∃ y, a = some y ∧ y.block = x.block) ∨ (B ≤ x.block ∧ x.block < M)
theorem Fro.refl (B M : Nat) (a : Option Addr) : Fro B M a a := fun x e => Or.inl ⟨x, e, rfl⟩
theorem Fro.new {B M : Nat} {a b : Option Addr} (h : New B M b) : Fro B M a b := fun x e => Or.inr (h x e)
theorem Fro.shift (B M g o o' : Nat) (t t' : Option Nat) : Fro B M (some ⟨g, o, t⟩) (some ⟨g, o', t'⟩) := fun x e => by cases e; exact Or.inl ⟨_, rfl, rfl⟩
/-- The blocks of a link's rows. -/
def Vb (v : Value) (g : Nat) : Prop := ∃ x0 x1 x2 a1 a2 a3 a4 n1 n2 n3 n4 c1 c2 c3 c4, v = .agg #[x0, x1, x2, .slice a1 n1 c1, .slice a2 n2 c2, .slice a3 n3 c3, .slice a4 n4 c4] ∧ ∃ x : Addr, x.block = g ∧ (a1 = some x ∨ a2 = some x ∨ a3 = some x ∨ a4 = some x)
/-- The rows of the second are rows of the first, or new. -/
def Src (B M : Nat) (v v' : Value) : Prop := ∀ g, Vb v' g → Vb v g ∨ (B ≤ g ∧ g < M)
theorem Src.refl (B M : Nat) (v : Value) : Src B M v v := fun _g h => Or.inl h
theorem src_mk {B M : Nat} {x0 x1 x2 y0 y1 y2 : Value} {a1 a2 a3 a4 b1 b2 b3 b4 : Option Addr} {n1 n2 n3 n4 c1 c2 c3 c4 m1 m2 m3 m4 e1 e2 e3 e4 : Nat} (h1 : Fro B M a1 b1) (h2 : Fro B M a2 b2) (h3 : Fro B M a3 b3) (h4 : Fro B M a4 b4) :
    Src B M (.agg #[x0, x1, x2, .slice a1 n1 c1, .slice a2 n2 c2, .slice a3 n3 c3, .slice a4 n4 c4]) (.agg #[y0, y1, y2, .slice b1 m1 e1, .slice b2 m2 e2, .slice b3 m3 e3, .slice b4 m4 e4]) := by
  rintro g ⟨_, _, _, f1, f2, f3, f4, _, _, _, _, _, _, _, _, e, x, rfl, hx⟩
  simp only [Value.agg.injEq, Array.mk.injEq, List.cons.injEq, Value.slice.injEq, and_true] at e
  obtain ⟨-, -, -, ⟨rfl, -, -⟩, ⟨rfl, -, -⟩, ⟨rfl, -, -⟩, rfl, -, -⟩ := e
  have key : ∀ {a b : Option Addr}, Fro B M a b → b = some x → (∃ y : Addr, a = some y ∧ y.block = x.block) ∨ (B ≤ x.block ∧ x.block < M) := fun h e => h x e
  rcases hx with e | e | e | e
  · rcases key h1 e with ⟨y, e2, e3⟩ | h
    · exact Or.inl ⟨_, _, _, _, _, _, _, _, _, _, _, _, _, _, _, rfl, y, e3, Or.inl e2⟩
    · exact Or.inr h
  · rcases key h2 e with ⟨y, e2, e3⟩ | h
    · exact Or.inl ⟨_, _, _, _, _, _, _, _, _, _, _, _, _, _, _, rfl, y, e3, Or.inr (Or.inl e2)⟩
    · exact Or.inr h
  · rcases key h3 e with ⟨y, e2, e3⟩ | h
    · exact Or.inl ⟨_, _, _, _, _, _, _, _, _, _, _, _, _, _, _, rfl, y, e3, Or.inr (Or.inr (Or.inl e2))⟩
    · exact Or.inr h
  · rcases key h4 e with ⟨y, e2, e3⟩ | h
    · exact Or.inl ⟨_, _, _, _, _, _, _, _, _, _, _, _, _, _, _, rfl, y, e3, Or.inr (Or.inr (Or.inr e2))⟩
    · exact Or.inr h
end Go.Proofs.Ytihfekcdghmkhaa
