/-
  append of one struct to a row of the call's own, and of a text's bytes: what each leaves of other rows and blocks. No function in it.
-/
import Derived.Test.YtockjijhckkicaaReadP
import Derived.Lib.AppendStr
namespace Go.Proofs.Ytockjijhckkicaa
open Go.RowKit Go.Lib

theorem wpList_app_k {P : Program} {ops : Array Oper} {rest : List Oper} {o : Oper} {a : Act} {Q : Exit → Act → World → Prop} (hgd : o.guard = none) (s x : Operand) (t e : TypeId) (i : TypeInfo) (z : Value) (k bytes : Nat)
    (ho : o.op = .call { callee := .builtin .append, args := #[s, x], argTypes := #[t, t] })
    (ht : P.underlying t = some (.slice e)) (hi : P.info? e = some i) (hz : i.zero = some z) (h1 : i.size = k) (hby : i.bytes = bytes) (hzs : z.cells.size = k) (hk0 : 0 < k) (hb8 : bytes ≤ 64)
    (B : Nat) (w : World) (v : Value) (n : Nat) (L news : List Value) (hs : a.eval s = v) (hown : OwnK e k w B v n L) (hx : a.eval x = .slice (some ⟨w.heap.size, 0, none⟩) 1 1)
    (hl : news.length = k) (hone : ∀ u ∈ news, u.oneCell' = true) (hlen : n ≤ 1000000) (hbase : B ≤ w.heap.size)
    (h : ∀ v' w', OwnK e k w' B v' (n + 1) (L ++ news) → (w.alloc (.cells news.toArray e)).grownBy w' v.ownBlock → wpList P ops Q rest (a.put o.dst v') w') :
    wpList P ops Q (o :: rest) a (w.alloc (.cells news.toArray e)) := by
  refine wpList_append_own _ hgd s x t ho B e i z k bytes ht hi hz h1 hby hzs hk0 v n L hs (World.ownsRow.alloc hown _) ⟨w.heap.size, 0, none⟩ 1 1 news hx (by rw [hl, Nat.one_mul]) ?_ hone ?_ ?_ ?_ ?_
  · intro j y hj
    rw [WideShapes.add_plain, Nat.zero_add, cell_of (heap_alloc_new w (.cells news.toArray e)) j]
    simpa using hj
  · unfold maxLen; omega
  · have : (n + 1) * bytes ≤ (n + 1) * 64 := Nat.mul_le_mul_left _ hb8
    omega
  · simp; omega
  · intro v' w' hown' hgrow _
    exact h v' w' hown' hgrow

/-- Rows of unlike elements don't share a block. -/
theorem own_twoK {w : World} {B B' : Nat} {e t : TypeId} {k k' n n' : Nat} {v u : Value} {l m : List Value} (h : OwnK e k w B v n l) (h' : OwnK t k' w B' u n' m) (hne : e ≠ t) : u.ownBlock = none ∨ u.ownBlock ≠ v.ownBlock := by
  rcases h'.2 with ⟨rfl, _⟩ | ⟨g', cap, cur, rfl, _, hh, _⟩
  · exact Or.inl rfl
  · refine Or.inr fun c => ?_
    exact h.ne hh hne (by rw [← c]; rfl)
theorem OwnK.kept {w w' : World} {B B' : Nat} {e t : TypeId} {k k' n n' : Nat} {v u : Value} {l m : List Value} (h : OwnK e k w B v n l) (h' : OwnK t k' w B' u n' m) (hne : e ≠ t) (hg : w.grownBy w' v.ownBlock) : OwnK t k' w' B' u n' m :=
  World.ownsRow.kept h' hg (own_twoK h h' hne)

/-- 'append(b, s...)' of a text. -/
theorem wpList_app_text {P : Program} {ops : Array Oper} {rest : List Oper} {o : Oper} {a : Act} {Q : Exit → Act → World → Prop} (hgd : o.guard = none) (sl x : Operand) (t u : TypeId)
    (ho : o.op = .call { callee := .builtin .append, args := #[sl, x], argTypes := #[t, u] })
    (e : TypeId) (i : TypeInfo) (ht : P.underlying t = some (.slice e)) (hu : P.underlying u = some .string) (hi : P.info? e = some i) (hz : i.zero = some (.int .u8 0)) (hsize : i.size = 1) (hby : i.bytes = 1)
    (B : Nat) (w : World) (v : Value) (L S : ByteArray) (hs : a.eval sl = v) (hown : OwnK e 1 w B v L.size (strCells L)) (hx : a.eval x = .string S) (hlen : L.size + S.size ≤ 100000000) (hbase : B ≤ w.heap.size)
    (h : ∀ v' w', OwnK e 1 w' B v' (L ++ S).size (strCells (L ++ S)) → w.grownBy w' v.ownBlock → wpList P ops Q rest (a.put o.dst v') w') :
    wpList P ops Q (o :: rest) a w := by
  refine wpList_append_own_string w hgd sl x t u ho B e i ht hu hi hz hsize hby v L.size (strCells L) hs hown S hx (by unfold maxLen; omega) (by omega) hbase ?_
  intro v' w' h1 h2 _
  refine h v' w' ?_ h2
  have e1 : strCells (L ++ S) = strCells L ++ strCells S := by unfold strCells; rw [app_data, List.map_append]
  rw [e1, ByteArray.size_append]
  exact h1

theorem strCells_vb (x : ByteArray) : strCells x = vb (bytes x) := by
  unfold strCells vb bytes
  rw [List.map_map]
  rfl
/-- 'string(b)' of a text's bytes, of the call's own. -/
theorem text_of {w : World} {B : Nat} {v : Value} {x : ByteArray} (h : OwnK 5 1 w B v x.size (strCells x)) : (convert 75 9 v).run Try.prog w = .ok (.string x) w := by
  have hl : ∀ y ∈ bytes x, y < 256 := fun y hy => by
    unfold bytes at hy
    obtain ⟨b, _, rfl⟩ := List.mem_map.1 hy
    exact b.toNat_lt
  have : Own 5 w B v (vb (bytes x)) := by
    unfold Own
    rw [show (vb (bytes x)).length = x.size by unfold vb; rw [List.length_map, bytes_len], ← strCells_vb]
    exact h
  have := own_string this hl
  rw [ofB_bytes] at this
  exact this
end Go.Proofs.Ytockjijhckkicaa
