/-
  A map by what it holds, entry by entry, in the row in which they were laid; what the operations on it do; a loop over it. No function in it.
-/
import Derived.Test.YtpmkpjnhdehnhaaProg
import Derived.Maps.RangeWalk
import Derived.WideKeyPair
namespace Go.Proofs.Ytpmkpjnhdehnhaa
open Go.RowKit Go.ChangeMaps Go.MapKept
open Go.Maps (Keyed)

/-- An entry's key and element. -/
abbrev kv (e : MapEntry) : Value × Value := (e.key, e.val)
/-- Block b is a map that holds just these. -/
def MpAt (w : World) (b : Nat) (M : List (Value × Value)) : Prop :=
  ∃ es clock, w.heap[b]? = some (.map es clock) ∧ Stamped es clock ∧ es.toList.map kv = M
/-- A key of type k. -/
def Kd (P : Program) (k : TypeId) (v : Value) : Prop := ∃ l, keyOf P k v = some l
def Kds (P : Program) (k : TypeId) (M : List (Value × Value)) : Prop := ∀ p ∈ M, Kd P k p.1
/-- A loop over it under way: these are to come. -/
def Going (w : World) (b r : Nat) (M left : List (Value × Value)) : Prop :=
  ∃ es clock since seen c0, w.heap[b]? = some (.map es clock) ∧ Stamped es clock ∧ es.toList.map kv = M ∧ w.heap[r]? = some (.mapIter (some b) since seen c0) ∧
    (∀ x ∈ es.toList, x.born < since) ∧ (leftOf es seen).toList.map kv = left ∧ since ≤ c0 ∧ since ≤ clock

section
variable {P : Program} {k e t : TypeId} {w : World} {b r : Nat} {M left : List (Value × Value)}

theorem MpAt.lt (h : MpAt w b M) : b < w.heap.size := by
  obtain ⟨es, clock, hb, _⟩ := h
  exact (Array.getElem?_eq_some_iff.1 hb).1
theorem MpAt.keep {w' : World} (h : MpAt w b M) (e : w'.heap[b]? = w.heap[b]?) : MpAt w' b M := by
  obtain ⟨es, clock, hb, r⟩ := h
  exact ⟨es, clock, e.trans hb, r⟩
theorem MpAt.made (w : World) : MpAt (w.alloc (.map #[] 0)) w.heap.size [] := ⟨#[], 0, (MapKept.heap_alloc w _).1, stamped_empty 0, rfl⟩
theorem MpAt.apart (h : MpAt w b M) : M.Pairwise (fun x y => x.1 ≠ y.1) := by
  obtain ⟨es, clock, _, hst, rfl⟩ := h
  rw [List.pairwise_map]
  exact ((stamped_iff es clock).1 hst).2.2
theorem kds_of {es : Array MapEntry} (hM : Kds P k (es.toList.map kv)) : ∀ e ∈ es.toList, ∃ l, keyOf P k e.key = some l := fun e he => hM (kv e) (List.mem_map.2 ⟨e, he, rfl⟩)
theorem MpAt.look_in (h : MpAt w b M) (K : Keyed P k) (ht : P.underlying t = some (.map k e)) (hM : Kds P k M) {key v : Value} (hm : (key, v) ∈ M) (c : Bool) :
    (Instr.lookup t (.map (some b)) key c).run P w = .ok (if c then .tuple #[v, .bool true] else v) w := by
  obtain ⟨l, hl⟩ := hM _ hm
  obtain ⟨es, clock, hb, hst, rfl⟩ := h
  obtain ⟨e0, he0, hk⟩ := List.mem_map.1 hm
  rcases K.find w hl es.toList (kds_of hM) with ⟨h1, h2⟩ | ⟨j, e1, h1, h2, h3⟩
  · exact absurd (congrArg Prod.fst hk) (h2 e0 he0)
  · obtain rfl : e1 = e0 := entry_eq_of_key ((stamped_iff es clock).1 hst).2.2 (List.mem_of_getElem? h2) he0 (h3.trans (congrArg Prod.fst hk).symm)
    obtain rfl : e1.val = v := congrArg Prod.snd hk
    simp [Instr.lookup, run_underlying ht, MapKept.run_getObj_map hb, K.check w _ hl, h1, Result.andThen]
theorem MpAt.look_out (h : MpAt w b M) (K : Keyed P k) (ht : P.underlying t = some (.map k e)) (hM : Kds P k M) {key z : Value} (hk : Kd P k key) (hn : ∀ p ∈ M, p.1 ≠ key) (hz : (zeroValue e).run P w = .ok z w) (c : Bool) :
    (Instr.lookup t (.map (some b)) key c).run P w = .ok (if c then .tuple #[z, .bool false] else z) w := by
  obtain ⟨l, hl⟩ := hk
  obtain ⟨es, clock, hb, hst, rfl⟩ := h
  rcases K.find w hl es.toList (kds_of hM) with ⟨h1, h2⟩ | ⟨j, e1, h1, h2, h3⟩
  · simp [Instr.lookup, run_underlying ht, MapKept.run_getObj_map hb, K.check w _ hl, h1, hz, Result.andThen]
  · exact absurd h3 (hn (kv e1) (List.mem_map.2 ⟨e1, List.mem_of_getElem? h2, rfl⟩))
/-- One more. -/
theorem MpAt.put_new (h : MpAt w b M) (K : Keyed P k) (ht : P.underlying t = some (.map k e)) (hM : Kds P k M) {key v : Value} (hk : Kd P k key) (hn : ∀ p ∈ M, p.1 ≠ key) :
    ∃ w', (Instr.mapUpdate t (.map (some b)) key v).run P w = .ok () w' ∧ MpAt w' b (M ++ [(key, v)]) ∧ w.mapTurned w' b := by
  obtain ⟨l, hl⟩ := hk
  obtain ⟨es, clock, hb, hst, rfl⟩ := h
  rcases K.find w hl es.toList (kds_of hM) with ⟨h1, h2⟩ | ⟨j, e1, h1, h2, h3⟩
  · refine ⟨setBlock w b (.map (es.push ⟨key, v, clock⟩) (clock + 1)), ?_, ⟨_, _, heap_setBlock_same hb _, stamped_push hst h2, by simp⟩, ⟨_, _, _, _, hb, rfl⟩⟩
    simp [Instr.mapUpdate, run_underlying ht, MapKept.run_getObj_map hb, K.check w false hl, h1, MapKept.run_setObj_map _ hb, Result.andThen, setBlock]
  · exact absurd h3 (hn (kv e1) (List.mem_map.2 ⟨e1, List.mem_of_getElem? h2, rfl⟩))
/-- Another element at a key that is there. -/
theorem MpAt.put_old {A B : List (Value × Value)} {key v v0 : Value} (h : MpAt w b (A ++ (key, v0) :: B)) (K : Keyed P k) (ht : P.underlying t = some (.map k e)) (hM : Kds P k (A ++ (key, v0) :: B)) :
    ∃ w', (Instr.mapUpdate t (.map (some b)) key v).run P w = .ok () w' ∧ MpAt w' b (A ++ (key, v) :: B) ∧ w.mapTurned w' b := by
  obtain ⟨l, hl⟩ := hM (key, v0) (by simp)
  have hap := h.apart
  obtain ⟨es, clock, hb, hst, hM'⟩ := h
  rw [← hM'] at hM
  rcases K.find w hl es.toList (kds_of hM) with ⟨h1, h2⟩ | ⟨j, e1, h1, h2, h3⟩
  · have : (key, v0) ∈ es.toList.map kv := by rw [hM']; simp
    obtain ⟨e0, he0, hk⟩ := List.mem_map.1 this
    exact absurd (congrArg Prod.fst hk) (h2 e0 he0)
  · have hj : es[j]? = some e1 := by simpa using h2
    have hjA : j = A.length := by
      have e2 : (A ++ (key, v0) :: B)[j]? = some (kv e1) := by rw [← hM', List.getElem?_map, h2]; rfl
      rw [List.pairwise_iff_getElem] at hap
      have hlt : j < (A ++ (key, v0) :: B).length := (List.getElem?_eq_some_iff.1 e2).1
      have e3 : (A ++ (key, v0) :: B)[j].1 = key := by rw [(List.getElem?_eq_some_iff.1 e2).2]; exact h3
      have e4 : (A ++ (key, v0) :: B)[A.length]'(by simp) = (key, v0) := by simp
      rcases Nat.lt_trichotomy j A.length with c | c | c
      · exact absurd (e3.trans (by rw [e4])) (hap j A.length hlt (by simp) c)
      · exact c
      · exact absurd ((by rw [e4] : _ = key).trans e3.symm) (hap A.length j (by simp) hlt c)
    have hkeyf : ∀ e', es[j]? = some e' → ({ e' with key := key, val := v } : MapEntry).key = e'.key := fun e' he' => by rw [hj] at he'; cases he'; exact h3.symm
    have hlist : (es.modify j (fun e' => { e' with key := key, val := v })).toList = es.toList.set j { e1 with key := key, val := v } := by rw [Array.toList_modify, modify_eq_set _ _ _ _ h2]
    refine ⟨setBlock w b (.map (es.modify j (fun e' => { e' with key := key, val := v })) clock), ?_, ⟨_, _, heap_setBlock_same hb _, stamped_modify hst _ _ (fun _ _ => rfl) (fun e' _ he' => hkeyf e' he'), ?_⟩, ⟨_, _, _, _, hb, rfl⟩⟩
    · simp [Instr.mapUpdate, run_underlying ht, MapKept.run_getObj_map hb, K.check w false hl, h1, hj, h3, K.stays w hl, MapKept.run_setObj_map _ hb, Result.andThen, setBlock]
    · rw [hlist, List.map_set, hM', hjA]
      simp
/-- A key that is there is struck. -/
theorem MpAt.del {A B : List (Value × Value)} {key v0 : Value} (h : MpAt w b (A ++ (key, v0) :: B)) (K : Keyed P k) (ht : P.underlying t = some (.map k e)) (hM : Kds P k (A ++ (key, v0) :: B)) (ty : TypeId) :
    ∃ w', (Builtin.delete_ #[t, k] ty #[.map (some b), key]).run P w = .ok (.tuple #[]) w' ∧ MpAt w' b (A ++ B) ∧ w.mapTurned w' b := by
  obtain ⟨l, hl⟩ := hM (key, v0) (by simp)
  have hap := h.apart
  obtain ⟨es, clock, hb, hst, hM'⟩ := h
  rw [← hM'] at hM
  rcases K.find w hl es.toList (kds_of hM) with ⟨h1, h2⟩ | ⟨j, e1, h1, h2, h3⟩
  · have : (key, v0) ∈ es.toList.map kv := by rw [hM']; simp
    obtain ⟨e0, he0, hk⟩ := List.mem_map.1 this
    exact absurd (congrArg Prod.fst hk) (h2 e0 he0)
  · have hjs : j < es.size := by have := (List.getElem?_eq_some_iff.1 h2).1; simpa using this
    have hsub : (es.eraseIdxIfInBounds j).toList = es.toList.eraseIdx j := by
      unfold Array.eraseIdxIfInBounds
      rw [dif_pos hjs]
      simp
    have hjA : j = A.length := by
      have e2 : (A ++ (key, v0) :: B)[j]? = some (kv e1) := by rw [← hM', List.getElem?_map, h2]; rfl
      rw [List.pairwise_iff_getElem] at hap
      have hlt : j < (A ++ (key, v0) :: B).length := (List.getElem?_eq_some_iff.1 e2).1
      have e3 : (A ++ (key, v0) :: B)[j].1 = key := by rw [(List.getElem?_eq_some_iff.1 e2).2]; exact h3
      have e4 : (A ++ (key, v0) :: B)[A.length]'(by simp) = (key, v0) := by simp
      rcases Nat.lt_trichotomy j A.length with c | c | c
      · exact absurd (e3.trans (by rw [e4])) (hap j A.length hlt (by simp) c)
      · exact c
      · exact absurd ((by rw [e4] : _ = key).trans e3.symm) (hap A.length j (by simp) hlt c)
    refine ⟨setBlock w b (.map (es.eraseIdxIfInBounds j) clock), ?_, ⟨_, _, heap_setBlock_same hb _, stamped_erase hst j, ?_⟩, ⟨_, _, _, _, hb, rfl⟩⟩
    · simp [Builtin.delete_, run_underlying ht, MapKept.run_getObj_map hb, K.check w _ hl, h1, MapKept.run_setObj_map _ hb, Result.andThen, setBlock]
    · rw [hsub, map_eraseIdx, hM', hjA, List.eraseIdx_append_of_length_le (Nat.le_refl _)]
      simp
theorem MpAt.len (h : MpAt w b M) (ht : P.underlying t = some (.map k e)) (ty : TypeId) : (Builtin.len_ #[t] ty #[.map (some b)]).run P w = .ok (.int .i64 M.length) w := by
  obtain ⟨es, clock, hb, _, rfl⟩ := h
  simp [Builtin.len_, run_underlying ht, MapKept.run_getObj_map hb, goInt, Result.andThen]
theorem turned_grown {w' : World} (h : w.mapTurned w' b) : w.grownBy w' (some b) := h.grown
theorem turned_size {w' : World} (h : w.mapTurned w' b) : w'.heap.size = w.heap.size := by
  obtain ⟨es, clock, es', clock', hb, rfl⟩ := h
  simp [setBlock]
/-- A loop over it begins. -/
theorem MpAt.range (h : MpAt w b M) (ht : P.underlying t = some (.map k e)) :
    ∃ w', (Instr.range t (.map (some b))).run P w = .ok (.pointer (some ⟨w.heap.size, 0, none⟩)) w' ∧ Going w' b w.heap.size M M ∧ Below w.heap.size w w' ∧ w'.heap.size = w.heap.size + 1 := by
  have hlt := h.lt
  obtain ⟨es, clock, hb, hst, rfl⟩ := h
  refine ⟨_, run_range_map w t k e b es clock ht hb, ⟨es, clock, clock, #[], clock, ((MapKept.heap_alloc w _).2 b hlt).trans hb, hst, rfl, (MapKept.heap_alloc w _).1, hst.1, ?_, Nat.le_refl _, Nat.le_refl _⟩, (Below.refl _ _).alloc (Nat.le_refl _) _, by simp⟩
  unfold leftOf
  rw [Array.toList_filter, List.filter_eq_self.2 (by simp)]
theorem Going.lt (h : Going w b r M left) : b < w.heap.size ∧ r < w.heap.size := by
  obtain ⟨es, clock, since, seen, c0, hb, _, _, hr, _⟩ := h
  exact ⟨(Array.getElem?_eq_some_iff.1 hb).1, (Array.getElem?_eq_some_iff.1 hr).1⟩
theorem Going.keep {w' : World} (h : Going w b r M left) (h1 : w'.heap[b]? = w.heap[b]?) (h2 : w'.heap[r]? = w.heap[r]?) : Going w' b r M left := by
  obtain ⟨es, clock, since, seen, c0, hb, hst, hM, hr, rest⟩ := h
  exact ⟨es, clock, since, seen, c0, h1.trans hb, hst, hM, h2.trans hr, rest⟩
theorem Going.map (h : Going w b r M left) : MpAt w b M := by
  obtain ⟨es, clock, since, seen, c0, hb, hst, hM, _⟩ := h
  exact ⟨es, clock, hb, hst, hM⟩
theorem Going.ne (h : Going w b r M left) : r ≠ b := by
  obtain ⟨es, clock, since, seen, c0, hb, _, _, hr, _⟩ := h
  intro e
  rw [e, hb] at hr
  cases hr
theorem filter_one_born : ∀ (l A B : List MapEntry) (x : MapEntry), l = A ++ x :: B → (l.map (·.born)).Nodup → l.filter (fun y => !(y.born == x.born)) = A ++ B := by
  rintro l A B x rfl hn
  rw [List.map_append, List.map_cons, List.nodup_append] at hn
  obtain ⟨h1, h2, h3⟩ := hn
  rw [List.nodup_cons] at h2
  rw [List.filter_append, List.filter_cons_of_neg (by simp), List.filter_eq_self.2, List.filter_eq_self.2]
  · intro y hy
    have : y.born ≠ x.born := fun c => h2.1 (List.mem_map.2 ⟨y, hy, c⟩)
    simpa using this
  · intro y hy
    have : y.born ≠ x.born := fun c => h3 _ (List.mem_map.2 ⟨y, hy, rfl⟩) _ (List.mem_cons_self) c
    simpa using this
/-- The step. -/
theorem Going.next (h : Going w b r M left) (ty : TypeId) :
    (left = [] ∧ (Instr.next (.pointer (some ⟨r, 0, none⟩)) false ty).run P w = .ok (.tuple #[.bool false]) w) ∨
    ∃ A p B w', left = A ++ p :: B ∧ (Instr.next (.pointer (some ⟨r, 0, none⟩)) false ty).run P w = .ok (.tuple #[.bool true, p.1, p.2]) w' ∧ Going w' b r M (A ++ B) ∧
      w.grownBy w' (some r) ∧ w'.heap.size = w.heap.size ∧ (Instr.entry (.pointer (some ⟨r, 0, none⟩))).run P w' = .ok (.tuple #[p.1, p.2]) w' := by
  have hne := h.ne
  obtain ⟨es, clock, since, seen, c0, hb, hst, rfl, hr, hold, rfl, hsc, hsk⟩ := h
  rcases run_next_at (P := P) w ty r b since c0 seen es clock hr hb hold hsc with ⟨h0, hrun⟩ | ⟨x, hx, w1, hal, hrun⟩
  · refine Or.inl ⟨?_, hrun⟩
    have : (leftOf es seen).toList = [] := List.eq_nil_of_length_eq_zero (by simpa using h0)
    rw [this]; rfl
  · obtain ⟨hem, hes⟩ := mem_left hx
    have hr1 : w1.heap[r]? = some (.mapIter (some b) since seen c0) := by rcases hal with rfl | rfl <;> exact hr
    have hb1 : w1.heap[b]? = some (.map es clock) := by rcases hal with rfl | rfl <;> exact hb
    have hset := MapKept.heap_set (o' := .mapIter (some b) since (seen.push x.born) clock) hr1
    have hb' := (hset.2 b hne.symm).trans hb1
    obtain ⟨A, B, hAB⟩ := List.append_of_mem hx
    have hsub : ((leftOf es seen).toList.map (·.born)).Nodup := by
      have : (leftOf es seen).toList.Sublist es.toList := by unfold leftOf; rw [Array.toList_filter]; exact List.filter_sublist
      exact (this.map _).nodup hst.2.1
    have hleft : (leftOf es (seen.push x.born)).toList = A ++ B := by
      rw [← filter_one_born _ A B x hAB hsub]
      unfold leftOf
      rw [Array.toList_filter, Array.toList_filter, List.filter_filter]
      refine List.filter_congr fun y _ => ?_
      rw [contains_push]
      cases seen.contains y.born <;> cases (y.born == x.born) <;> rfl
    refine Or.inr ⟨A.map kv, kv x, B.map kv, _, by rw [hAB]; simp, hrun, ⟨es, clock, since, seen.push x.born, clock, hb', hst, rfl, hset.1, hold, by rw [hleft]; simp, hsk, hsk⟩, ?_, ?_,
      run_entry_at _ r b since seen es clock x hset.1 hb' hem hst.2.1⟩
    · rcases hal with rfl | rfl <;> exact ⟨rfl, rfl, rfl, by simp [setBlock], fun i _ hi => hset.2 i (fun e1 => hi (by rw [e1]))⟩
    · rcases hal with rfl | rfl <;> simp [setBlock]
end

/-! At the operation, for the walk. -/
section
variable {P : Program} {w : World} {ops : Array Oper} {rest : List Oper} {o : Oper} {a : Act} {Q : Exit → Act → World → Prop}
theorem wpList_mlook (hg : o.guard = none) (m x : Operand) (t : TypeId) (c : Bool) (hop : o.op = Op.lookup t m x c) {mv key v : Value} (hm : a.eval m = mv) (hx : a.eval x = key) (hrun : (Instr.lookup t mv key c).run P w = .ok v w)
    (hK : wpList P ops Q rest (a.put o.dst v) w) : wpList P ops Q (o :: rest) a w := by
  refine wpList_plain hg fun K' hK' => ?_
  unfold Oper.wp
  simp [execOp, hop, hm, hx, hrun, Result.andThen]
  exact hK' _ _ hK
theorem wpList_mput (hg : o.guard = none) (m x v : Operand) (t : TypeId) (hop : o.op = Op.mapUpdate t m x v) {mv key val : Value} {w' : World} (hm : a.eval m = mv) (hx : a.eval x = key) (hv : a.eval v = val) (hrun : (Instr.mapUpdate t mv key val).run P w = .ok () w')
    (hK : wpList P ops Q rest (a.put o.dst undef) w') : wpList P ops Q (o :: rest) a w := by
  refine wpList_plain hg fun K' hK' => ?_
  unfold Oper.wp
  simp [execOp, hop, hm, hx, hv, hrun, Result.andThen]
  exact hK' _ _ hK
theorem wpList_mdel (hg : o.guard = none) (m x : Operand) (t k : TypeId) (hop : o.op = Op.call { callee := Callee.builtin Builtin.delete, args := #[m, x], argTypes := #[t, k] }) {mv key : Value} {w' : World} (hm : a.eval m = mv) (hx : a.eval x = key)
    (hrun : (Builtin.delete_ #[t, k] o.type #[mv, key]).run P w = .ok (.tuple #[]) w') (hK : wpList P ops Q rest (a.put o.dst (.tuple #[])) w') : wpList P ops Q (o :: rest) a w := by
  refine wpList_plain hg fun K' hK' => ?_
  unfold Oper.wp
  simp [execOp, hop, resolve, invoke, builtin, hm, hx, hrun, Result.andThen]
  exact hK' _ _ hK
theorem wpList_mlen (hg : o.guard = none) (m : Operand) (t : TypeId) (hop : o.op = Op.call { callee := Callee.builtin Builtin.len, args := #[m], argTypes := #[t] }) {mv v : Value} (hm : a.eval m = mv) (hrun : (Builtin.len_ #[t] o.type #[mv]).run P w = .ok v w)
    (hK : wpList P ops Q rest (a.put o.dst v) w) : wpList P ops Q (o :: rest) a w := by
  refine wpList_plain hg fun K' hK' => ?_
  unfold Oper.wp
  simp [execOp, hop, resolve, invoke, builtin, hm, hrun, Result.andThen]
  exact hK' _ _ hK
theorem wpList_mrange (hg : o.guard = none) (m : Operand) (t : TypeId) (hop : o.op = Op.range t m) {mv v : Value} {w' : World} (hm : a.eval m = mv) (hrun : (Instr.range t mv).run P w = .ok v w')
    (hK : wpList P ops Q rest (a.put o.dst v) w') : wpList P ops Q (o :: rest) a w := by
  refine wpList_plain hg fun K' hK' => ?_
  unfold Oper.wp
  simp [execOp, hop, hm, hrun, Result.andThen]
  exact hK' _ _ hK
theorem wpList_mnext (hg : o.guard = none) (it : Operand) (hop : o.op = Op.next it false) {iv v : Value} {w' : World} (hit : a.eval it = iv) (hrun : (Instr.next iv false o.type).run P w = .ok v w')
    (hK : wpList P ops Q rest (a.put o.dst v) w') : wpList P ops Q (o :: rest) a w := by
  refine wpList_plain hg fun K' hK' => ?_
  unfold Oper.wp
  simp [execOp, hop, hit, hrun, Result.andThen]
  exact hK' _ _ hK
end
end Go.Proofs.Ytpmkpjnhdehnhaa
