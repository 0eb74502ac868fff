/-
  What the law of what is put in keeps, while parcels are sent.
-/
import Derived.Test.YtoejpngdkcnnhaaGreatNcRf
import Derived.Test.YtoejpngdkcnnhaaGreatNcLives
namespace Go.Proofs.YtoejpngdkcnnhaaGreat
open Go.RowKit

/-- append of one element of k cells, written out in a new block: and where the row lies behind it. -/
theorem wpList_app_at {P : Program} {ops : Array Oper} {rest : List Oper} {o : Oper} {a : Act} {Q : Exit → Act → World → Prop} (hgd : o.guard = none) (s x : Operand) (t e : TypeId) (i : TypeInfo) (z : Value) (k bytes : Nat)
    (ho : o.op = .call { callee := .builtin .append, args := #[s, x], argTypes := #[t, t] })
    (ht : P.underlying t = some (.slice e)) (hi : P.info? e = some i) (hz : i.zero = some z) (h1 : i.size = k) (hby : i.bytes = bytes) (hzs : z.cells.size = k) (hk0 : 0 < k) (hb8 : bytes ≤ 64)
    (B : Nat) (w : World) (v : Value) (n : Nat) (L news : List Value) (hs : a.eval s = v) (hown : OwnK e k w B v n L) (hx : a.eval x = .slice (some ⟨w.heap.size, 0, none⟩) 1 1)
    (hl : news.length = k) (hone : ∀ u ∈ news, u.oneCell' = true) (hlen : n ≤ 1000000) (hbase : B ≤ w.heap.size)
    (h : ∀ v' w', OwnK e k w' B v' (n + 1) (L ++ news) → (w.alloc (.cells news.toArray e)).grownBy w' v.ownBlock → (v'.ownBlock = v.ownBlock ∨ v'.ownBlock = some (w.alloc (.cells news.toArray e)).heap.size) → wpList P ops Q rest (a.put o.dst v') w') :
    wpList P ops Q (o :: rest) a (w.alloc (.cells news.toArray e)) := by
  refine wpList_plain hgd fun K hK => ?_
  obtain ⟨v', w', hrun, h2, h3, _, h5⟩ := run_append_own_at (P := P) (w.alloc (.cells news.toArray e)) B t o.type e i z k bytes ht hi hz h1 hby hzs hk0 v n L (World.ownsRow.alloc hown _) ⟨w.heap.size, 0, none⟩ 1 1 news (by rw [hl, Nat.one_mul])
    (fun j u hj => by rw [WideShapes.add_plain, Nat.zero_add, cell_of (heap_alloc_new w (.cells news.toArray e)) j]; simpa using hj) hone (by unfold maxLen; omega) (by have : (n + 1) * bytes ≤ (n + 1) * 64 := Nat.mul_le_mul_left _ hb8; omega) (by simp; omega)
  unfold Oper.wp
  simp [execOp, ho, resolve, invoke, builtin, hs, hx, hrun, Result.andThen]
  exact hK _ _ (h v' w' h2 h3 h5)
def vt (l : List Bool) : List Value := l.map (.bool ·)
theorem vt_snoc (l : List Bool) (x : Bool) : vt l ++ [.bool x] = vt (l ++ [x]) := by unfold vt; rw [List.map_append]; rfl
section
variable {w w' : World} {e e' : TypeId} {k k' B B' n n' : Nat} {v v' : Value} {cs cs' : List Value}
theorem OwnK.bk (h : OwnK e k w B v n cs) {q : Nat} (hq : v.ownBlock = some q) : ∃ cur, Bk w q cur e := by
  rcases h.2 with ⟨rfl, _⟩ | ⟨g, cap, cur, rfl, _, hh, _⟩
  · cases hq
  · cases hq
    exact ⟨cur, hh⟩
theorem OwnK.apart (h : OwnK e k w B v n cs) (h' : OwnK e' k' w B' v' n' cs') (hne : e' ≠ e) : ∀ q, v.ownBlock = some q → v'.ownBlock ≠ some q := fun _ hq => by
  obtain ⟨cur, hb⟩ := h.bk hq
  exact h'.ne hb hne
theorem OwnK.tn {T : Nat → Prop} (h : OwnK e k w B v n cs) (ht : Tn T w w') (hc : ∀ q, v.ownBlock = some q → ¬ T q) : OwnK e k w' B v n cs := by
  refine ⟨h.1, ?_⟩
  rcases h.2 with hn | ⟨g, cap, cur, e1, hg, hh, r⟩
  · exact Or.inl hn
  · exact Or.inr ⟨g, cap, cur, e1, hg, by rw [ht.block g (lt_of_heap hh) (hc g (by rw [e1]; rfl))]; exact hh, r⟩
end
theorem tn_grown {w w' : World} {r : Option Nat} (h : w.grownBy w' r) : Tn (fun g => r = some g) w w' := ⟨h.os, h.tape, h.output, h.size, fun i hi hn => h.block i hi fun e => hn e.symm, fun _ h => Or.inl h⟩
abbrev TU : TypeId := 46
abbrev TB : TypeId := 4
structure Pt (w0 v : World) (A b ib : Nat) (c : G.Cf) (S : Nc) (cu : Value) (J : Nat → Value) (B : Nat) (L : List (Int × List Nat)) (H : Nat → Prop) (v8 v9 v10 : Value) (X8 : List Nat) (X9 X10 : List Bool) : Prop where
  bl : Below w0.heap.size w0 v
  nb : Nb v b ib S cu J
  sn : Snd v B cu L H
  cA : Bk v A (G.cfc c) 23
  r8 : OwnK 46 1 v B v8 X8.length (vw X8)
  r9 : OwnK 4 1 v B v9 X9.length (vt X9)
  ra : OwnK 4 1 v B v10 X10.length (vt X10)
  d8 : ∀ q, v8.ownBlock = some q → ¬ H q
  d9 : ∀ q, v9.ownBlock = some q → ¬ H q
  da : ∀ q, v10.ownBlock = some q → ¬ H q
  dd : ∀ q, v9.ownBlock = some q → v10.ownBlock ≠ some q
  o1 : w0.heap.size ≤ A
  o2 : A < b
  o3 : b < B
  o4 : B ≤ v.heap.size
  hl : ∀ k, H k → k < v.heap.size
section
variable {w0 v v' : World} {A b ib : Nat} {c : G.Cf} {S : Nc} {cu : Value} {J : Nat → Value} {B : Nat} {L : List (Int × List Nat)} {H : Nat → Prop} {v8 v9 v10 : Value} {X8 : List Nat} {X9 X10 : List Bool}
theorem Pt.next (h : Pt w0 v A b ib c S cu J B L H v8 v9 v10 X8 X9 X10) (hb : Below v.heap.size v v') : Pt w0 v' A b ib c S cu J B L H v8 v9 v10 X8 X9 X10 :=
  ⟨h.bl.trans (hb.mono h.bl.size), h.nb.next hb, h.sn.next hb, h.cA.next hb, h.r8.below hb, h.r9.below hb, h.ra.below hb, h.d8, h.d9, h.da, h.dd, h.o1, h.o2, h.o3, Nat.le_trans h.o4 hb.size, fun k hk => Nat.lt_of_lt_of_le (h.hl k hk) hb.size⟩
/-- A parcel is sent. -/
theorem Pt.send (h : Pt w0 v A b ib c S cu J B L H v8 v9 v10 X8 X9 X10) {S' : Nc} {cu' : Value} {L' : List (Int × List Nat)} (ht : Tn (fun g => g = b ∨ cu.ownBlock = some g) v v') (hn : Nb v' b ib S' cu' J) (hs : Snd v' B cu' L' (fun k => H k ∨ (v.heap.size ≤ k ∧ k < v'.heap.size))) : Pt w0 v' A b ib c S' cu' J B L' (fun k => H k ∨ (v.heap.size ≤ k ∧ k < v'.heap.size)) v8 v9 v10 X8 X9 X10 := by
  have hcu : ∀ q, cu.ownBlock = some q → B ≤ q := fun q hq => by
    obtain ⟨⟨cells, ho, -⟩, -⟩ := h.sn
    exact (ho.lt hq).1
  have hcA : ¬ (A = b ∨ cu.ownBlock = some A) := by
    rintro (e | e)
    · have := h.o2; omega
    · have := hcu A e; have := h.o2; have := h.o3; omega
  have off : ∀ {e : TypeId} {n : Nat} {u : Value} {cs : List Value}, OwnK e 1 v B u n cs → 82 ≠ e → ∀ q, u.ownBlock = some q → ¬ (q = b ∨ cu.ownBlock = some q) := fun ho hne q hq => by
    rintro (e | e)
    · have := (ho.lt hq).1; have := h.o3; omega
    · obtain ⟨⟨cells, hc, -⟩, -⟩ := h.sn
      exact ho.apart hc hne q hq e
  have nlt : ∀ {e : TypeId} {n : Nat} {u : Value} {cs : List Value}, OwnK e 1 v B u n cs → (∀ q, u.ownBlock = some q → ¬ H q) → ∀ q, u.ownBlock = some q → ¬ (H q ∨ (v.heap.size ≤ q ∧ q < v'.heap.size)) := fun ho hd q hq => by
    rintro (e | e)
    · exact hd q hq e
    · have := (ho.lt hq).2; omega
  refine ⟨ht.under h.bl (fun g hg => ?_) h.bl.size, hn, hs, ?_, h.r8.tn ht (off h.r8 (by decide)), h.r9.tn ht (off h.r9 (by decide)), h.ra.tn ht (off h.ra (by decide)), nlt h.r8 h.d8, nlt h.r9 h.d9, nlt h.ra h.da, h.dd, h.o1, h.o2, h.o3, Nat.le_trans h.o4 ht.size, fun k hk => ?_⟩
  · rcases hg with e | e
    · have := h.o1; have := h.o2; omega
    · have := hcu g e; have := h.o1; have := h.o2; have := h.o3; omega
  · have := h.cA
    unfold Bk at this ⊢
    rw [ht.block A (lt_of_heap this) hcA]
    exact this
  · rcases hk with e | e
    · exact Nat.lt_of_lt_of_le (h.hl k e) ht.size
    · exact e.2
/-- Another row that is not to be written over. -/
theorem Pt.more (h : Pt w0 v A b ib c S cu J B L H v8 v9 v10 X8 X9 X10) (hb : Below v.heap.size v v') {r : Nat} (hr : v.heap.size ≤ r) (hr2 : r < v'.heap.size) : Pt w0 v' A b ib c S cu J B L (fun k => H k ∨ k = r) v8 v9 v10 X8 X9 X10 := by
  have h2 := h.next hb
  have nlt : ∀ {e : TypeId} {n : Nat} {u : Value} {cs : List Value}, OwnK e 1 v B u n cs → (∀ q, u.ownBlock = some q → ¬ H q) → ∀ q, u.ownBlock = some q → ¬ (H q ∨ q = r) := fun ho hd q hq => by
    rintro (e | e)
    · exact hd q hq e
    · have := (ho.lt hq).2; omega
  have hl : ∀ k, (H k ∨ k = r) → k < v'.heap.size := fun k hk => by
    rcases hk with e | e
    · exact h2.hl k e
    · omega
  exact { h2 with sn := h2.sn.more (fun k hk => Or.inl hk) hl, d8 := nlt h.r8 h.d8, d9 := nlt h.r9 h.d9, da := nlt h.ra h.da, hl := hl }
/-- What an append to one of its three rows keeps. -/
theorem Pt.keep (h : Pt w0 v A b ib c S cu J B L H v8 v9 v10 X8 X9 X10) {T : Nat → Prop} (ht : Tn T v v') (hT : ∀ g, T g → B ≤ g ∧ ¬ H g) (hc : ∀ q, cu.ownBlock = some q → ¬ T q) : Below w0.heap.size w0 v' ∧ Nb v' b ib S cu J ∧ Snd v' B cu L H ∧ Bk v' A (G.cfc c) 23 ∧ B ≤ v'.heap.size ∧ ∀ k, H k → k < v'.heap.size := by
  have h1 := h.o1
  have h2 := h.o2
  have h3 := h.o3
  refine ⟨ht.under h.bl (fun g hg => by have := (hT g hg).1; omega) h.bl.size, h.nb.keep (ht.block b h.nb.lt fun hb => by have := (hT b hb).1; omega), h.sn.tn ht (fun k hk hk2 => (hT k hk2).2 hk) hc, ?_, Nat.le_trans h.o4 ht.size, fun k hk => Nat.lt_of_lt_of_le (h.hl k hk) ht.size⟩
  have := h.cA
  unfold Bk at this ⊢
  rw [ht.block A (lt_of_heap this) fun hb => by have := (hT A hb).1; omega]
  exact this
theorem loc_off {v : World} {u u' : Value} {F : Nat → Prop} {n : Nat} (hn : n = v.heap.size) (hF : ∀ g, F g → g < v.heap.size) (ho : ∀ q, u.ownBlock = some q → ¬ F q) (h : u'.ownBlock = u.ownBlock ∨ u'.ownBlock = some n) : ∀ q, u'.ownBlock = some q → ¬ F q := fun q hq hf => by
  rcases h with h | h
  · exact ho q (by rw [← h]; exact hq) hf
  · rw [hq] at h
    injection h with h
    have := hF q hf
    omega
theorem Pt.app8 (h : Pt w0 v A b ib c S cu J B L H v8 v9 v10 X8 X9 X10) {u : Value} {W : Nat} (hg : v.grownBy v' v8.ownBlock) (ho : OwnK 46 1 v' B u (X8.length + 1) (vw X8 ++ [.int .u64 (W : Int)])) (hu : u.ownBlock = v8.ownBlock ∨ u.ownBlock = some v.heap.size) : Pt w0 v' A b ib c S cu J B L H u v9 v10 (X8 ++ [W]) X9 X10 := by
  obtain ⟨k1, k2, k3, k4, k5, k6⟩ := h.keep (tn_grown hg) (fun g hg' => ⟨(h.r8.lt hg').1, h.d8 g hg'⟩) (fun q hq hq2 => by
    obtain ⟨⟨cells, hc, -⟩, -⟩ := h.sn
    exact h.r8.apart hc (by decide) q hq2 hq)
  exact ⟨k1, k2, k3, k4, by rw [List.length_append, ← vw_snoc]; exact ho, h.r9.tn (tn_grown hg) (fun q hq hq2 => h.r9.apart h.r8 (by decide) q hq hq2), h.ra.tn (tn_grown hg) (fun q hq hq2 => h.ra.apart h.r8 (by decide) q hq hq2), loc_off rfl h.hl h.d8 hu, h.d9, h.da, h.dd, h.o1, h.o2, h.o3, k5, k6⟩
theorem Pt.app9 (h : Pt w0 v A b ib c S cu J B L H v8 v9 v10 X8 X9 X10) {u : Value} {x : Bool} (hg : v.grownBy v' v9.ownBlock) (ho : OwnK 4 1 v' B u (X9.length + 1) (vt X9 ++ [.bool x])) (hu : u.ownBlock = v9.ownBlock ∨ u.ownBlock = some v.heap.size) : Pt w0 v' A b ib c S cu J B L H v8 u v10 X8 (X9 ++ [x]) X10 := by
  obtain ⟨k1, k2, k3, k4, k5, k6⟩ := h.keep (tn_grown hg) (fun g hg' => ⟨(h.r9.lt hg').1, h.d9 g hg'⟩) (fun q hq hq2 => by
    obtain ⟨⟨cells, hc, -⟩, -⟩ := h.sn
    exact h.r9.apart hc (by decide) q hq2 hq)
  refine ⟨k1, k2, k3, k4, h.r8.tn (tn_grown hg) (fun q hq hq2 => h.r8.apart h.r9 (by decide) q hq hq2), by rw [List.length_append, ← vt_snoc]; exact ho, h.ra.tn (tn_grown hg) (fun q hq hq2 => h.dd q hq2 hq), h.d8, loc_off rfl h.hl h.d9 hu, h.da, fun q hq hq2 => ?_, h.o1, h.o2, h.o3, k5, k6⟩
  rcases hu with e | e
  · exact h.dd q (by rw [← e]; exact hq) hq2
  · rw [hq] at e
    injection e with e
    have := (h.ra.lt hq2).2
    omega
theorem Pt.appa (h : Pt w0 v A b ib c S cu J B L H v8 v9 v10 X8 X9 X10) {u : Value} {x : Bool} (hg : v.grownBy v' v10.ownBlock) (ho : OwnK 4 1 v' B u (X10.length + 1) (vt X10 ++ [.bool x])) (hu : u.ownBlock = v10.ownBlock ∨ u.ownBlock = some v.heap.size) : Pt w0 v' A b ib c S cu J B L H v8 v9 u X8 X9 (X10 ++ [x]) := by
  obtain ⟨k1, k2, k3, k4, k5, k6⟩ := h.keep (tn_grown hg) (fun g hg' => ⟨(h.ra.lt hg').1, h.da g hg'⟩) (fun q hq hq2 => by
    obtain ⟨⟨cells, hc, -⟩, -⟩ := h.sn
    exact h.ra.apart hc (by decide) q hq2 hq)
  refine ⟨k1, k2, k3, k4, h.r8.tn (tn_grown hg) (fun q hq hq2 => h.r8.apart h.ra (by decide) q hq hq2), h.r9.tn (tn_grown hg) (fun q hq hq2 => h.dd q hq hq2), by rw [List.length_append, ← vt_snoc]; exact ho, h.d8, h.d9, loc_off rfl h.hl h.da hu, fun q hq hq2 => ?_, h.o1, h.o2, h.o3, k5, k6⟩
  rcases hu with e | e
  · exact h.dd q hq (by rw [← e]; exact hq2)
  · rw [hq2] at e
    injection e with e
    have := (h.r9.lt hq).2
    omega
end
end Go.Proofs.YtoejpngdkcnnhaaGreat
