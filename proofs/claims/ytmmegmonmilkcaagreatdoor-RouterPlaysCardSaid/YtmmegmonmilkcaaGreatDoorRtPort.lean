/-
 The program's router: a new port. (Written by gen_rport.py.)
-/
import Derived.Test.YtmmegmonmilkcaaGreatDoorRtR
import Derived.Deep.CutRange
import Derived.Laws.MakeOwn
namespace Go.Proofs.YtmmegmonmilkcaaGreatDoor
open Go.RowKit
theorem clamp_ways_n (n : Int) : (n < 1 ∧ ((clampN n : Nat) : Int) = 1) ∨ (1 ≤ n ∧ 4096 < n ∧ ((clampN n : Nat) : Int) = 4096) ∨ (1 ≤ n ∧ n ≤ 4096 ∧ ((clampN n : Nat) : Int) = n) := FA.clamp_ways n
theorem made_none (v : World) (n : Nat) : OwB (v.alloc (.cells (madeCells #[Value.int .i64 0, Value.int .i64 0, Value.bool false] (n * 3)) 131)) v.heap.size n (fun _ => -1) := by
 refine ⟨_, Bk.new _ _ _, by simp [madeCells], fun l hl j hj => ?_⟩
 have h3 : l * 3 + j < n * 3 := by omega
 have hm : (l * 3 + j) % 3 = j := by omega
 have : (madeCells #[Value.int .i64 0, Value.int .i64 0, Value.bool false] (n * 3))[l * 3 + j]? = some ((#[Value.int .i64 0, Value.int .i64 0, Value.bool false] : Array Value)[j]!) := by
  unfold madeCells
  rw [Array.getElem?_map, Array.getElem?_range, if_pos h3]
  simp only [Option.map_some, List.size_toArray, List.length_cons, List.length_nil, hm]
 rw [this]
 match j, hj with
 | 0, _ => rfl
 | 1, _ => rfl
 | 2, _ => rfl
theorem Fb_next {v v' : World} {b N l : Nat} (h : FA.Fb v b N l) (hb : Below v.heap.size v v') : FA.Fb v' b N l := Fb_keep h (hb.block b h.lt)
structure NP (w v : World) (n : Nat) (o g m p : Option Nat) : Prop where
 bl : Below w.heap.size w v
 ho : ∀ x, o = some x → w.heap.size ≤ x ∧ OwB v x n (fun _ => -1)
 hg : ∀ x, g = some x → w.heap.size ≤ x ∧ FA.Fb v x n 0
 hm : ∀ x, m = some x → w.heap.size ≤ x ∧ FA.Fb v x (5 * n) 0
 hp : ∀ x, p = some x → w.heap.size ≤ x ∧ Bk v x (zq6 none 0 0 none 0 0 none none) 94
 og : ∀ x y, o = some x → g = some y → x ≠ y
 om : ∀ x y, o = some x → m = some y → x ≠ y
 op : ∀ x y, o = some x → p = some y → x ≠ y
 gm : ∀ x y, g = some x → m = some y → x ≠ y
 gp : ∀ x y, g = some x → p = some y → x ≠ y
 mp : ∀ x y, m = some x → p = some y → x ≠ y
section
variable {w v v' : World} {n : Nat} {o g m p : Option Nat}
theorem NP.next (h : NP w v n o g m p) (hb : Below v.heap.size v v') : NP w v' n o g m p :=
 ⟨h.bl.trans (hb.mono h.bl.size), fun x e => ⟨(h.ho x e).1, (h.ho x e).2.keep (hb.block x (h.ho x e).2.lt)⟩, fun x e => ⟨(h.hg x e).1, Fb_next (h.hg x e).2 hb⟩, fun x e => ⟨(h.hm x e).1, Fb_next (h.hm x e).2 hb⟩, fun x e => ⟨(h.hp x e).1, (h.hp x e).2.next hb⟩, h.og, h.om, h.op, h.gm, h.gp, h.mp⟩
theorem NP.start (w : World) (n : Nat) : NP w w n none none none none := ⟨Below.refl _ _, fun _ e => (by cases e), fun _ e => (by cases e), fun _ e => (by cases e), fun _ e => (by cases e), fun _ _ e => (by cases e), fun _ _ e => (by cases e), fun _ _ e => (by cases e), fun _ _ e => (by cases e), fun _ _ e => (by cases e), fun _ _ e => (by cases e)⟩
theorem NP.addo (h : NP w v n none g m p) (hb : Below v.heap.size v v') (hn : OwB v' v.heap.size n (fun _ => -1)) : NP w v' n (some v.heap.size) g m p := by
 have h' := h.next hb
 have hw := h.bl.size
 have lg : ∀ x, g = some x → x < v.heap.size := fun x e => (h.hg x e).2.lt
 have lm : ∀ x, m = some x → x < v.heap.size := fun x e => (h.hm x e).2.lt
 have lp : ∀ x, p = some x → x < v.heap.size := fun x e => (h.hp x e).2.lt
 exact ⟨h'.bl, fun x e => by cases e; exact ⟨hw, hn⟩, h'.hg, h'.hm, h'.hp, fun x y e e2 => by cases e; have := lg y e2; omega, fun x y e e2 => by cases e; have := lm y e2; omega, fun x y e e2 => by cases e; have := lp y e2; omega, h'.gm, h'.gp, h'.mp⟩
theorem NP.addg (h : NP w v n o none m p) (hb : Below v.heap.size v v') (hn : FA.Fb v' v.heap.size n 0) : NP w v' n o (some v.heap.size) m p := by
 have h' := h.next hb
 have hw := h.bl.size
 have lo : ∀ x, o = some x → x < v.heap.size := fun x e => (h.ho x e).2.lt
 have lm : ∀ x, m = some x → x < v.heap.size := fun x e => (h.hm x e).2.lt
 have lp : ∀ x, p = some x → x < v.heap.size := fun x e => (h.hp x e).2.lt
 exact ⟨h'.bl, h'.ho, fun x e => by cases e; exact ⟨hw, hn⟩, h'.hm, h'.hp, fun x y e e2 => by cases e2; have := lo x e; omega, h'.om, h'.op, fun x y e e2 => by cases e; have := lm y e2; omega, fun x y e e2 => by cases e; have := lp y e2; omega, h'.mp⟩
theorem NP.addm (h : NP w v n o g none p) (hb : Below v.heap.size v v') (hn : FA.Fb v' v.heap.size (5 * n) 0) : NP w v' n o g (some v.heap.size) p := by
 have h' := h.next hb
 have hw := h.bl.size
 have lo : ∀ x, o = some x → x < v.heap.size := fun x e => (h.ho x e).2.lt
 have lg : ∀ x, g = some x → x < v.heap.size := fun x e => (h.hg x e).2.lt
 have lp : ∀ x, p = some x → x < v.heap.size := fun x e => (h.hp x e).2.lt
 exact ⟨h'.bl, h'.ho, h'.hg, fun x e => by cases e; exact ⟨hw, hn⟩, h'.hp, h'.og, fun x y e e2 => by cases e2; have := lo x e; omega, h'.op, fun x y e e2 => by cases e2; have := lg x e; omega, h'.gp, fun x y e e2 => by cases e; have := lp y e2; omega⟩
theorem NP.addp (h : NP w v n o g m none) (hb : Below v.heap.size v v') (hn : Bk v' v.heap.size (zq6 none 0 0 none 0 0 none none) 94) : NP w v' n o g m (some v.heap.size) := by
 have h' := h.next hb
 have hw := h.bl.size
 have lo : ∀ x, o = some x → x < v.heap.size := fun x e => (h.ho x e).2.lt
 have lg : ∀ x, g = some x → x < v.heap.size := fun x e => (h.hg x e).2.lt
 have lm : ∀ x, m = some x → x < v.heap.size := fun x e => (h.hm x e).2.lt
 exact ⟨h'.bl, h'.ho, h'.hg, h'.hm, fun x e => by cases e; exact ⟨hw, hn⟩, h'.og, h'.om, fun x y e e2 => by cases e2; have := lo x e; omega, h'.gm, fun x y e e2 => by cases e2; have := lg x e; omega, fun x y e e2 => by cases e2; have := lm x e; omega⟩
end
theorem step_app_at {P : Program} {ops : Array Oper} {o : Oper} {a : Act} {K : Act → World → Prop} {Q : Exit → Act → World → Prop} {E : Prop} (hgd : o.guard = none) (s x : Operand) (t e : TypeId) (i : TypeInfo) (z : Value) (k bytes : Nat)
  (ho : o.op = .call { callee := .builtin .append, args := #[s, x], argTypes := #[t, t] })
  (ht : P.underlying t = some (.slice e)) (hi : P.info? e = some i) (hz : i.zero = some z) (h1 : i.size = k) (hby : i.bytes = bytes) (hzs : z.cells.size = k) (hk0 : 0 < k) (hb8 : bytes ≤ 64)
  (B : Nat) (w : World) (v : Value) (n : Nat) (cs news : List Value) (g : Nat) (hs : a.eval s = v) (hown : OwnK e k w B v n cs) (hx : a.eval x = .slice (some ⟨g, 0, none⟩) 1 1)
  (hl : news.length = k) (hn : ∀ j u, news[j]? = some u → w.cell? ⟨g, j, none⟩ = some u) (hone : ∀ u ∈ news, u.oneCell' = true) (hlen : n ≤ 1000000) (hbase : B ≤ w.heap.size)
  (h : ∀ v' w', OwnK e k w' B v' (n + 1) (cs ++ news) → w.grownBy w' v.ownBlock → (v'.ownBlock = v.ownBlock ∨ v'.ownBlock = some w.heap.size) → K (a.put o.dst v') w') :
  if Region.wanted o (yielded ops a.tmps) = true then Oper.wp P o a w K Q else E := by
 have hw : Region.wanted o (yielded ops a.tmps) = true := by simp [Region.wanted, hgd]
 rw [if_pos hw]
 obtain ⟨v', w', hrun, h2, h3, _, h5⟩ := run_append_own_at (P := P) w B t o.type e i z k bytes ht hi hz h1 hby hzs hk0 v n cs hown ⟨g, 0, none⟩ 1 1 news (by rw [hl, Nat.one_mul])
  (fun j u hj => by rw [WideShapes.add_plain, Nat.zero_add]; exact hn j u hj) hone (by unfold maxLen; omega) (by have : (n + 1) * bytes ≤ (n + 1) * 64 := Nat.mul_le_mul_left _ hb8; omega) hbase
 unfold Oper.wp
 simp [execOp, ho, resolve, invoke, builtin, hs, hx, hrun, Result.andThen]
 exact h v' w' h2 h3 h5
structure PL (w v : World) (n d i o g m p : Nat) (B : Nat) (lv : Value) (kb : Nat → Nat) (fk : Nat → Nat → Prop) (tg : Nat → Nat) : Prop where
 bl : Below w.heap.size w v
 ow : OwB v o n (fun _ => -1)
 gf : FA.Fb v g n 0
 mf : FA.Fb v m (5 * n) 0
 pt : Bk v p #[lv, .slice (some ⟨o, 0, none⟩) n n, .pointer (some ⟨g, 0, none⟩), .pointer (some ⟨m, 0, none⟩)] 94
 row : OwnK 108 1 v B lv i ((List.range i).map fun l => .pointer (some ⟨kb l, 0, none⟩))
 hB : w.heap.size ≤ B ∧ B ≤ v.heap.size
 rt : ∀ q, lv.ownBlock = some q → tg q = 0
 kn : ∀ l, l < i → Kn v (kb l) (newK d) (fk l)
 tO : tg o = 1
 tG : tg g = 2
 tM : tg m = 3
 tp : tg p = 4
 tk : ∀ l, l < i → ∀ q, fk l q → tg q = 5 + l
 lt : ∀ q, tg q ≠ 0 → w.heap.size ≤ q ∧ q < v.heap.size
section
variable {w v v' : World} {n d i o g m p B : Nat} {lv : Value} {kb : Nat → Nat} {fk : Nat → Nat → Prop} {tg : Nat → Nat}
theorem PL.keep (h : PL w v n d i o g m p B lv kb fk tg) (hb : Below w.heap.size w v') (hs : v.heap.size ≤ v'.heap.size) (k : ∀ q, tg q ≠ 0 → v'.heap[q]? = v.heap[q]?) (row : OwnK 108 1 v' B lv i ((List.range i).map fun l => .pointer (some ⟨kb l, 0, none⟩))) : PL w v' n d i o g m p B lv kb fk tg :=
 ⟨hb, h.ow.keep (k _ (by rw [h.tO]; decide)), Fb_keep h.gf (k _ (by rw [h.tG]; decide)), Fb_keep h.mf (k _ (by rw [h.tM]; decide)), by unfold Bk; rw [k _ (by rw [h.tp]; decide)]; exact h.pt, row, ⟨h.hB.1, Nat.le_trans h.hB.2 hs⟩, h.rt, fun l hl => Kn_keep (h.kn l hl) fun q hq => k q (by rw [h.tk l hl q hq]; omega), h.tO, h.tG, h.tM, h.tp, h.tk, fun q hq => ⟨(h.lt q hq).1, Nat.lt_of_lt_of_le (h.lt q hq).2 hs⟩⟩
theorem PL.next (h : PL w v n d i o g m p B lv kb fk tg) (hb : Below v.heap.size v v') : PL w v' n d i o g m p B lv kb fk tg :=
 h.keep (h.bl.trans (hb.mono (Nat.le_trans h.hB.1 h.hB.2))) hb.size (fun q hq => hb.block q (h.lt q hq).2) (h.row.below hb)
open Classical in
theorem PL.more {u x : World} {b : Nat} {F : Nat → Prop} {lv' : Value} (h : PL w v n d i o g m p B lv kb fk tg) (hb : Below v.heap.size v u) (hk : Kn u b (newK d) F) (hF : ∀ q, F q → v.heap.size ≤ q)
  (hx : OwnK 108 1 x B lv' (i + 1) ((List.range i).map (fun l => Value.pointer (some ⟨kb l, 0, none⟩)) ++ [.pointer (some ⟨b, 0, none⟩)])) (hg : (u.alloc (.cells #[.pointer (some ⟨b, 0, none⟩)] 108)).grownBy x lv.ownBlock)
  (ha : lv'.ownBlock = lv.ownBlock ∨ lv'.ownBlock = some (u.alloc (.cells #[.pointer (some ⟨b, 0, none⟩)] 108)).heap.size) (hBp : p < B) :
  PL w (x.setCell ⟨p, 0, none⟩ lv') n d (i + 1) o g m p B lv' (fun l => if l = i then b else kb l) (fun l => if l = i then F else fk l) (fun q => if F q then 5 + i else tg q) := by
 have hv := h.hB
 have hvu := hb.size
 have hux : u.heap.size + 1 ≤ x.heap.size := by have := hg.size; simp at this; exact this
 have old : ∀ q, tg q ≠ 0 → (if F q then 5 + i else tg q) = tg q := fun q h0 => if_neg fun c => by have := (h.lt q h0).2; have := hF q c; omega
 have key0 : ∀ q, q < u.heap.size → lv.ownBlock ≠ some q → x.heap[q]? = u.heap[q]? := fun q hq hne => by
  rw [hg.block q (by simp; omega) (fun c => hne c.symm), Below.heap_alloc _ _ _ hq]
 have key : ∀ q, tg q ≠ 0 → x.heap[q]? = v.heap[q]? := fun q h0 => by
  rw [key0 q (by have := (h.lt q h0).2; omega) (fun c => h0 (h.rt q c)), hb.block q (h.lt q h0).2]
 have fr : ∀ q, q ≠ p → (x.setCell ⟨p, 0, none⟩ lv').heap[q]? = x.heap[q]? := fun q hq => Below.heap_setCell x ⟨p, 0, none⟩ lv' q hq
 have key2 : ∀ q, tg q ≠ 0 → q ≠ p → (x.setCell ⟨p, 0, none⟩ lv').heap[q]? = v.heap[q]? := fun q h0 hq => (fr q hq).trans (key q h0)
 have np : ∀ q, tg q ≠ 4 → q ≠ p := fun q hq e => hq (by rw [e]; exact h.tp)
 have hpv := h.pt.lt
 have lvB : ∀ q, lv.ownBlock = some q → B ≤ q := fun q hq => (h.row.lt hq).1
 have e1 : ∀ l, l < i → (if l = i then b else kb l) = kb l := fun l hl => if_neg (by omega)
 have e2 : ∀ l, l < i → (if l = i then F else fk l) = fk l := fun l hl => if_neg (by omega)
 refine ⟨?_, ?_, ?_, ?_, ?_, ?_, ⟨hv.1, by simp; omega⟩, ?_, ?_, (old _ (by rw [h.tO]; decide)).trans h.tO, (old _ (by rw [h.tG]; decide)).trans h.tG, (old _ (by rw [h.tM]; decide)).trans h.tM, (old _ (by rw [h.tp]; decide)).trans h.tp, ?_, ?_⟩
 ·have b1 : Below w.heap.size w (u.alloc (.cells #[.pointer (some ⟨b, 0, none⟩)] 108)) := (h.bl.trans (hb.mono (by omega))).alloc (by omega) _
  have b2 : Below w.heap.size w x := b1.grown hg (by simp; omega) (fun q hq => by have := lvB q hq; omega)
  exact b2.setCell (by show w.heap.size ≤ p; exact (h.lt p (by rw [h.tp]; decide)).1) _
 ·exact h.ow.keep (key2 _ (by rw [h.tO]; decide) (np _ (by rw [h.tO]; decide)))
 ·exact Fb_keep h.gf (key2 _ (by rw [h.tG]; decide) (np _ (by rw [h.tG]; decide)))
 ·exact Fb_keep h.mf (key2 _ (by rw [h.tM]; decide) (np _ (by rw [h.tM]; decide)))
 ·have hp : Bk x p #[lv, .slice (some ⟨o, 0, none⟩) n n, .pointer (some ⟨g, 0, none⟩), .pointer (some ⟨m, 0, none⟩)] 94 := by unfold Bk; rw [key p (by rw [h.tp]; decide)]; exact h.pt
  have := hp.set 0 lv'
  simpa using this
 ·have : (List.range (i + 1)).map (fun l => Value.pointer (some ⟨if l = i then b else kb l, 0, none⟩)) = (List.range i).map (fun l => Value.pointer (some ⟨kb l, 0, none⟩)) ++ [.pointer (some ⟨b, 0, none⟩)] := by
   rw [List.range_succ, List.map_append]
   congr 1
   ·exact List.map_congr_left fun l hl => by rw [e1 l (List.mem_range.1 hl)]
   ·simp
  rw [this]
  exact OwnK.far hx hBp
 ·intro q hq
  show (if F q then 5 + i else tg q) = 0
  have hq2 : lv.ownBlock = some q ∨ q = u.heap.size + 1 := by
   rcases ha with e | e
   ·exact Or.inl (e.symm.trans hq)
   ·rw [hq] at e
    injection e with e
    simp at e
    exact Or.inr e
  rcases hq2 with e | e
  ·have hlt := (h.row.lt e).2
   rw [if_neg (fun c => by have := hF q c; omega)]
   exact h.rt q e
  ·rw [if_neg (fun c => by have := hk.lt q c; omega)]
   by_cases h0 : tg q = 0
   ·exact h0
   ·have := (h.lt q h0).2
    omega
 ·intro l hl
  show Kn (x.setCell ⟨p, 0, none⟩ lv') (if l = i then b else kb l) (newK d) (if l = i then F else fk l)
  by_cases c : l = i
  ·rw [if_pos c, if_pos c]
   refine Kn_keep hk fun q hq => ?_
   have h1 := hF q hq
   have h2 := hk.lt q hq
   rw [fr q (by omega), key0 q h2 (fun c => by have := (h.row.lt c).2; omega)]
  ·rw [if_neg c, if_neg c]
   refine Kn_keep (h.kn l (by omega)) fun q hq => ?_
   have ht := h.tk l (by omega) q hq
   exact key2 q (by rw [ht]; omega) (np q (by rw [ht]; omega))
 ·intro l hl q hq
  replace hq : (if l = i then F else fk l) q := hq
  show (if F q then 5 + i else tg q) = 5 + l
  by_cases c : l = i
  ·rw [if_pos c] at hq
   rw [if_pos hq, c]
  ·rw [if_neg c] at hq
   have ht := h.tk l (by omega) q hq
   rw [old q (by rw [ht]; omega), ht]
 ·intro q hq
  replace hq : (if F q then 5 + i else tg q) ≠ 0 := hq
  by_cases c : F q
  ·have h1 := hF q c
   have h2 := hk.lt q c
   exact ⟨by omega, by simp; omega⟩
  ·rw [if_neg c] at hq
   have := h.lt q hq
   exact ⟨this.1, by simp; omega⟩
end
theorem four_c {v : World} {k : Nat} {c0 c1 c2 c3 : Value} {t : TypeId} (M : Bk v k #[c0, c1, c2, c3] t) : v.cell? ⟨k, 0, none⟩ = some c0 ∧ v.cell? ⟨k, 1, none⟩ = some c1 ∧ v.cell? ⟨k, 2, none⟩ = some c2 ∧ v.cell? ⟨k, 3, none⟩ = some c3 := ⟨(M.cell 0).trans rfl, (M.cell 1).trans rfl, (M.cell 2).trans rfl, (M.cell 3).trans rfl⟩
theorem four_f {v : World} {k : Nat} {cs : Array Value} {t : TypeId} (M : Bk v k cs t) : v.frozen? ⟨k, 0, none⟩ = false ∧ v.frozen? ⟨k, 1, none⟩ = false ∧ v.frozen? ⟨k, 2, none⟩ = false ∧ v.frozen? ⟨k, 3, none⟩ = false := ⟨M.free 0, M.free 1, M.free 2, M.free 3⟩
theorem NP.pl {w v : World} {n o g m p : Nat} (h : NP w v n (some o) (some g) (some m) (some p)) (d : Nat) :
  PL w ((((v.setCell ⟨p, 0, none⟩ (.slice none 0 0)).setCell ⟨p, 1, none⟩ (.slice (some ⟨o, 0, none⟩) n n)).setCell ⟨p, 2, none⟩ (.pointer (some ⟨g, 0, none⟩))).setCell ⟨p, 3, none⟩ (.pointer (some ⟨m, 0, none⟩))) n d 0 o g m p ((((v.setCell ⟨p, 0, none⟩ (.slice none 0 0)).setCell ⟨p, 1, none⟩ (.slice (some ⟨o, 0, none⟩) n n)).setCell ⟨p, 2, none⟩ (.pointer (some ⟨g, 0, none⟩))).setCell ⟨p, 3, none⟩ (.pointer (some ⟨m, 0, none⟩))).heap.size (.slice none 0 0) (fun _ => 0) (fun _ _ => False) (fun q => if q = o then 1 else if q = g then 2 else if q = m then 3 else if q = p then 4 else 0) := by
 have ho := h.ho o rfl
 have hg := h.hg g rfl
 have hm := h.hm m rfl
 have hp := h.hp p rfl
 have og := h.og o g rfl rfl
 have om := h.om o m rfl rfl
 have op := h.op o p rfl rfl
 have gm := h.gm g m rfl rfl
 have gp := h.gp g p rfl rfl
 have mp := h.mp m p rfl rfl
 have fr : ∀ q, q ≠ p → ((((v.setCell ⟨p, 0, none⟩ (.slice none 0 0)).setCell ⟨p, 1, none⟩ (.slice (some ⟨o, 0, none⟩) n n)).setCell ⟨p, 2, none⟩ (.pointer (some ⟨g, 0, none⟩))).setCell ⟨p, 3, none⟩ (.pointer (some ⟨m, 0, none⟩))).heap[q]? = v.heap[q]? := fun q hq => by
  rw [Below.heap_setCell _ ⟨p, 3, none⟩ _ q hq, Below.heap_setCell _ ⟨p, 2, none⟩ _ q hq, Below.heap_setCell _ ⟨p, 1, none⟩ _ q hq, Below.heap_setCell _ ⟨p, 0, none⟩ _ q hq]
 have hsz : ((((v.setCell ⟨p, 0, none⟩ (.slice none 0 0)).setCell ⟨p, 1, none⟩ (.slice (some ⟨o, 0, none⟩) n n)).setCell ⟨p, 2, none⟩ (.pointer (some ⟨g, 0, none⟩))).setCell ⟨p, 3, none⟩ (.pointer (some ⟨m, 0, none⟩))).heap.size = v.heap.size := by simp
 have hol := ho.2.lt
 have hgl := hg.2.lt
 have hml := hm.2.lt
 have hpl := hp.2.lt
 refine ⟨(((h.bl.setCell hp.1 _).setCell hp.1 _).setCell hp.1 _).setCell hp.1 _, ho.2.keep (fr o op), Fb_keep hg.2 (fr g gp), Fb_keep hm.2 (fr m mp), ?_, OwnK.nil _ _ _ _, ⟨by rw [hsz]; exact h.bl.size, Nat.le_refl _⟩, fun q hq => by simp [Value.ownBlock] at hq, fun l hl => by omega, if_pos rfl, ?_, ?_, ?_, fun l hl => by omega, ?_⟩
 ·have := (((hp.2.set 0 (.slice none 0 0)).set 1 (.slice (some ⟨o, 0, none⟩) n n)).set 2 (.pointer (some ⟨g, 0, none⟩))).set 3 (.pointer (some ⟨m, 0, none⟩))
  simpa using this
 ·show (if g = o then 1 else if g = g then 2 else if g = m then 3 else if g = p then 4 else 0) = 2
  rw [if_neg (Ne.symm og), if_pos rfl]
 ·show (if m = o then 1 else if m = g then 2 else if m = m then 3 else if m = p then 4 else 0) = 3
  rw [if_neg (Ne.symm om), if_neg (Ne.symm gm), if_pos rfl]
 ·show (if p = o then 1 else if p = g then 2 else if p = m then 3 else if p = p then 4 else 0) = 4
  rw [if_neg (Ne.symm op), if_neg (Ne.symm gp), if_neg (Ne.symm mp), if_pos rfl]
 ·intro q hq
  replace hq : (if q = o then 1 else if q = g then 2 else if q = m then 3 else if q = p then 4 else 0) ≠ 0 := hq
  rw [hsz]
  by_cases e1 : q = o
  ·rw [e1]; exact ⟨ho.1, hol⟩
  ·by_cases e2 : q = g
   ·rw [e2]; exact ⟨hg.1, hgl⟩
   ·by_cases e3 : q = m
    ·rw [e3]; exact ⟨hm.1, hml⟩
    ·by_cases e4 : q = p
     ·rw [e4]; exact ⟨hp.1, hpl⟩
     ·rw [if_neg e1, if_neg e2, if_neg e3, if_neg e4] at hq
      exact absurd rfl hq
structure PtNew (w w' : World) (n d lb lc o g m : Nat) (kb : Nat → Nat) (fk : Nat → Nat → Prop) (tg : Nat → Nat) : Prop where
 bl : Below w.heap.size w w'
 lr : PtR w' lb n kb ∧ n ≤ lc ∧ lc ≤ maxLen
 ow : OwB w' o n (fun _ => -1)
 gf : FA.Fb w' g n 0
 mf : FA.Fb w' m (5 * n) 0
 kn : ∀ l, l < n → Kn w' (kb l) (newK d) (fk l)
 tl : tg lb = 4
 tO : tg o = 1
 tG : tg g = 2
 tM : tg m = 3
 tk : ∀ l, l < n → ∀ q, fk l q → tg q = 5 + l
 lt : ∀ q, tg q ≠ 0 → w.heap.size ≤ q ∧ q < w'.heap.size
open Classical in
theorem PL.fin {w v u : World} {n d o g m p B gr cap rb : Nat} {cur : Array Value} {kb : Nat → Nat} {fk : Nat → Nat → Prop} {tg : Nat → Nat} {x0 x1 x2 x3 : Value} (h : PL v u n d n o g m p B (.slice (some ⟨gr, 0, none⟩) n cap) kb fk tg) (_hn : 1 ≤ n)
  (hr : u.heap[gr]? = some (.cells cur 108 (0, 0)) ∧ n ≤ cap ∧ cap ≤ maxLen ∧ cur.toList.take (n * 1) = (List.range n).map fun l => Value.pointer (some ⟨kb l, 0, none⟩)) (hb : Below w.heap.size w u) (hwv : w.heap.size ≤ v.heap.size) (hrb : w.heap.size ≤ rb) (hrv : rb < v.heap.size) :
  PtNew w ((((u.setCell ⟨rb, 0, none⟩ x0).setCell ⟨rb, 1, none⟩ x1).setCell ⟨rb, 2, none⟩ x2).setCell ⟨rb, 3, none⟩ x3) n d gr cap o g m kb fk (fun q => if q = gr then 4 else if q = p then 0 else tg q) := by
 have fr : ∀ q, q ≠ rb → ((((u.setCell ⟨rb, 0, none⟩ x0).setCell ⟨rb, 1, none⟩ x1).setCell ⟨rb, 2, none⟩ x2).setCell ⟨rb, 3, none⟩ x3).heap[q]? = u.heap[q]? := fun q hq => by
  rw [Below.heap_setCell _ ⟨rb, 3, none⟩ _ q hq, Below.heap_setCell _ ⟨rb, 2, none⟩ _ q hq, Below.heap_setCell _ ⟨rb, 1, none⟩ _ q hq, Below.heap_setCell _ ⟨rb, 0, none⟩ _ q hq]
 have hsz : ((((u.setCell ⟨rb, 0, none⟩ x0).setCell ⟨rb, 1, none⟩ x1).setCell ⟨rb, 2, none⟩ x2).setCell ⟨rb, 3, none⟩ x3).heap.size = u.heap.size := by simp
 have tz : tg gr = 0 := h.rt gr rfl
 have hgl := h.row.lt (q := gr) rfl
 have ft : ∀ q, tg q ≠ 0 → ((((u.setCell ⟨rb, 0, none⟩ x0).setCell ⟨rb, 1, none⟩ x1).setCell ⟨rb, 2, none⟩ x2).setCell ⟨rb, 3, none⟩ x3).heap[q]? = u.heap[q]? := fun q hq => fr q (by have := (h.lt q hq).1; omega)
 have tt : ∀ q, tg q ≠ 0 → tg q ≠ 4 → (if q = gr then 4 else if q = p then 0 else tg q) = tg q := fun q h0 h4 => by
  rw [if_neg (fun e => h0 (by rw [e]; exact tz)), if_neg (fun e => h4 (by rw [e]; exact h.tp))]
 refine ⟨(((hb.setCell hrb _).setCell hrb _).setCell hrb _).setCell hrb _, ⟨⟨cur, ?_, fun l hl => ?_⟩, hr.2.1, hr.2.2.1⟩, h.ow.keep (ft _ (by rw [h.tO]; decide)), Fb_keep h.gf (ft _ (by rw [h.tG]; decide)), Fb_keep h.mf (ft _ (by rw [h.tM]; decide)), fun l hl => Kn_keep (h.kn l hl) fun q hq => ft q (by rw [h.tk l hl q hq]; omega), if_pos rfl,
  (tt _ (by rw [h.tO]; decide) (by rw [h.tO]; decide)).trans h.tO, (tt _ (by rw [h.tG]; decide) (by rw [h.tG]; decide)).trans h.tG, (tt _ (by rw [h.tM]; decide) (by rw [h.tM]; decide)).trans h.tM, fun l hl q hq => ?_, fun q hq => ?_⟩
 ·unfold Bk
  rw [fr gr (by have := h.hB.1; omega)]
  exact hr.1
 ·have h4 := hr.2.2.2
  have e : (cur.toList.take (n * 1))[l]? = some (.pointer (some ⟨kb l, 0, none⟩)) := by
   rw [h4, List.getElem?_map, List.getElem?_range hl]
   rfl
  rw [List.getElem?_take_of_lt (by omega)] at e
  simpa using e
 ·have ht := h.tk l hl q hq
  exact (tt q (by rw [ht]; omega) (by rw [ht]; omega)).trans ht
 ·replace hq : (if q = gr then 4 else if q = p then 0 else tg q) ≠ 0 := hq
  rw [hsz]
  by_cases e1 : q = gr
  ·rw [e1]
   have := h.hB.1
   exact ⟨by omega, hgl.2⟩
  ·rw [if_neg e1] at hq
   by_cases e2 : q = p
   ·rw [if_pos e2] at hq
    exact absurd rfl hq
   ·rw [if_neg e2] at hq
    have := h.lt q hq
    exact ⟨by omega, this.2⟩
set_option maxRecDepth 100000 in
set_option maxHeartbeats 8000000 in
theorem newport_any (c : G.Cf) (n d : Nat) (hn : (n : Int) = c.l) (hd : (d : Int) = c.d) (h1 : 1 ≤ n) (h8 : n ≤ 8) (w : World) : Calls Tryz.prog 40 #[G.cfv c] w fun e w' => ∃ lb lc o g m kb fk tg, e = .returned (.agg (zq6 (some ⟨lb, 0, none⟩) n lc (some ⟨o, 0, none⟩) n n (some ⟨g, 0, none⟩) (some ⟨m, 0, none⟩))) ∧ PtNew w w' n d lb lc o g m kb fk tg := by
 have N5 : (((5 * n : Nat)) : Int) = 5 * c.l := by omega
 have hcl1 : clampN (n : Int) = n := by have := clamp_ways_n (n : Int); omega
 have hcl2 : clampN ((5 * n : Nat) : Int) = 5 * n := by have := clamp_ways_n ((5 * n : Nat) : Int); omega
 have FN : Hid (∀ v, Calls Tryz.prog 81 #[.int .i64 c.l] v fun e w' => e = .returned (.pointer (some ⟨v.heap.size, 0, none⟩)) ∧ FA.Fb w' v.heap.size n 0 ∧ Below v.heap.size v w') := show _ from fun v => by
  rw [← hn]
  refine (FA.new_any (n : Int) v).mono ?_
  rintro e w' ⟨rfl, rfl⟩
  exact ⟨rfl, FA.Fb.new v hcl1, (Below.refl _ _).alloc (Nat.le_refl _) _⟩
 have FM : Hid (∀ v, Calls Tryz.prog 81 #[.int .i64 (IntKind.i64.wrap (5 * c.l))] v fun e w' => e = .returned (.pointer (some ⟨v.heap.size, 0, none⟩)) ∧ FA.Fb w' v.heap.size (5 * n) 0 ∧ Below v.heap.size v w') := show _ from fun v => by
  rw [IntWalk.i64_in _ (by omega), ← N5]
  refine (FA.new_any ((5 * n : Nat) : Int) v).mono ?_
  rintro e w' ⟨rfl, rfl⟩
  exact ⟨rfl, FA.Fb.new v hcl2, (Below.refl _ _).alloc (Nat.le_refl _) _⟩
 have LN : Hid (∀ v, Calls Tryz.prog 82 #[.int .i64 c.d] v fun e w' => ∃ p F, e = .returned (.pointer (some ⟨p, 0, none⟩)) ∧ Kn w' p (newK (d : Int)) F ∧ (∀ g, F g → v.heap.size ≤ g) ∧ Below v.heap.size v w') := show _ from fun v => by
  rw [← hd]
  exact lane_new (d : Int) v
 obtain ⟨i3, ki3, hz3, h3, h24⟩ := info_parts (P := Tryz.prog) (e := 131) (z := .agg #[.int .i64 0, .int .i64 0, .bool false]) (size := 3) (bytes := 24) (by kernel_rfl)
 have MK : Hid (∀ v : World, (Instr.makeSlice 91 (.int .i64 c.l) (.int .i64 c.l)).run Tryz.prog v = .ok (.slice (some ⟨v.heap.size, 0, none⟩) n n) (v.alloc (.cells (madeCells #[Value.int .i64 0, Value.int .i64 0, Value.bool false] (n * 3)) 131))) := show _ from fun v => by
  have := run_make (P := Tryz.prog) v 91 131 i3 (.agg #[.int .i64 0, .int .i64 0, .bool false]) Tryz.underlying91 ki3 hz3 .i64 .i64 c.l c.l (by omega) (Int.le_refl _) (by rw [h24]; omega) (by omega)
  rw [h3] at this
  rw [this]
  have e9 : c.l.toNat = n := by omega
  rw [e9]
  rfl
 obtain ⟨cw, ch, cl, cd, cr, ci, cb, we, ca⟩ := c
 simp only [G.cfv, G.cfc] at *
 have HN : Hid ((n : Int) = cl ∧ 1 ≤ n ∧ n ≤ 8) := show _ ∧ _ ∧ _ from ⟨hn, h1, h8⟩
 have C0 : Hid (Bk ((w.alloc (.cells (zq5 cw ch cl cd cr ci cb we ca) 23)).alloc (.cells (zq6 none 0 0 none 0 0 none none) 94)) w.heap.size (zq5 cw ch cl cd cr ci cb we ca) 23) := (Bk.new w _ _).alloc _
 have R0 : Hid (Bk ((w.alloc (.cells (zq5 cw ch cl cd cr ci cb we ca) 23)).alloc (.cells (zq6 none 0 0 none 0 0 none none) 94)) (w.heap.size + 1) (zq6 none 0 0 none 0 0 none none) 94) := show Bk _ _ _ _ from by
  have := Bk.new (w.alloc (.cells (zq5 cw ch cl cd cr ci cb we ca) 23)) (zq6 none 0 0 none 0 0 none none) 94
  rwa [show (w.alloc (.cells (zq5 cw ch cl cd cr ci cb we ca) 23)).heap.size = w.heap.size + 1 by simp] at this
 have B0 : Hid (Below w.heap.size w ((w.alloc (.cells (zq5 cw ch cl cd cr ci cb we ca) 23)).alloc (.cells (zq6 none 0 0 none 0 0 none none) 94))) := ((Below.refl _ _).alloc (Nat.le_refl _) _).alloc (by simp) _
 clear hn hd h1 h8 N5 hcl1 hcl2 ki3 hz3 h3 h24
 go_enter Tryz.func40, Tryz.ntmps40
 go_upto_region 1 with fail
 generalize ((w.alloc (.cells (zq5 cw ch cl cd cr ci cb we ca) 23)).alloc (.cells (zq6 none 0 0 none 0 0 none none) 94)) = v at *
 obtain ⟨A, hA⟩ : ∃ x, w.heap.size = x := ⟨_, rfl⟩
 have HA : Hid (w.heap.size = A) := hA
 have HB0 : Hid (Below w.heap.size w v) := B0.out
 rw [hA] at C0 R0 ⊢
 clear hA B0
 have SS : Hid (∀ V, Below v.heap.size v V → V.cell? ⟨A, 2, none⟩ = some (.int .i64 cl)) := show _ from fun V hV => ((C0.out.next hV).cell 2).trans rfl
 go_cut [3] from 3 to 14 (fun x wc => ∃ xo xg xm xp, x = .pointer (some ⟨xp, 0, none⟩) ∧ ∃ kb fk tg, PL v wc n d 0 xo xg xm xp wc.heap.size (.slice none 0 0) kb fk tg)
 case first =>
  have D0 : Below v.heap.size v v.drew := (Below.refl _ _).drew
  have Q0 := (NP.start v n).next D0
  have T0 := SS.out _ D0
  clear D0 LN
  refine wp_region_G (fun V => V.cell? ⟨A, 2, none⟩ = some (.int .i64 cl)) 12 (by kernel_rfl) ?_
  refine wpAnyG_tk [12] (some 4) (i := 0) (v := ?v0) rfl rfl (by kernel_rfl) (fun _ _ _ h => h) (Or.inl ⟨by rfl, ?y0⟩) T0 ?r0
  case y0 => (intro V hSV; have s0 := hSV; go_simp; try with_reducible rfl)
  try simp only [Act.put, sqa, sqz, sqs]
  refine wpAnyG_tk [12] (some 5) (i := 1) (v := ?v1) rfl rfl (by kernel_rfl) (fun _ _ _ h => h) (Or.inl ⟨by rfl, ?y1⟩) T0 ?r1
  case y1 => (intro V hSV; have s0 := hSV; go_simp; try with_reducible rfl)
  try simp only [Act.put, sqa, sqz, sqs]
  refine wpAnyG_tk [12] (some 7) (i := 3) (v := ?v3) rfl rfl (by kernel_rfl) (fun _ _ _ h => h) (Or.inl ⟨by rfl, ?y3⟩) T0 ?r3
  case y3 => (intro V hSV; have s0 := hSV; go_simp; try with_reducible rfl)
  try simp only [Act.put, sqa, sqz, sqs]
  refine wpAnyG_tk [12] (some 8) (i := 4) (v := ?v4) rfl rfl (by kernel_rfl) (fun _ _ _ h => h) (Or.inl ⟨by rfl, ?y4⟩) T0 ?r4
  case y4 => (intro V hSV; have s0 := hSV; go_simp; try with_reducible rfl)
  try simp only [Act.put, sqa, sqz, sqs]
  refine wpAnyG_tk [12] (some 10) (i := 6) (v := ?v6) rfl rfl (by kernel_rfl) (fun _ _ _ h => h) (Or.inl ⟨by rfl, ?y6⟩) T0 ?r6
  case y6 => (intro V hSV; have s0 := hSV; go_simp; try with_reducible rfl)
  try simp only [Act.put, sqa, sqz, sqs]
  refine wpAnyG_tk [12] (some 11) (i := 7) (v := ?v7) rfl rfl (by kernel_rfl) (fun _ _ _ h => h) (Or.inl ⟨by rfl, ?y7⟩) T0 ?r7
  case y7 => (intro V hSV; have s0 := hSV; go_simp; try with_reducible rfl)
  try simp only [Act.put, sqa, sqz, sqs]
  refine wpAnyG_tk [12] (some 12) (i := 8) (v := ?v8) rfl rfl (by kernel_rfl) (fun _ _ _ h => h) (Or.inl ⟨by rfl, ?y8⟩) T0 ?r8
  case y8 => (intro V hSV; have s0 := hSV; go_simp; try with_reducible rfl)
  try simp only [Act.put, sqa, sqz, sqs]
  generalize v.drew = v0 at *
  refine wpAnyG_any [2, 5, 11] (by kernel_rfl) (by rfl) ?_
  intro i hi
  rcases mem3 hi with rfl | rfl | rfl
  ·clear hi
   refine wpOpG (i := 2) rfl (fun K hK => ?_)
   have mk := MK.out v0
   go_simp
   have Q9 := Q0.addo ((Below.refl _ _).alloc (Nat.le_refl _) _) (made_none v0 n)
   have T9 := SS.out _ Q9.bl
   refine hK.out _ _ (Or.inr T9) ?_
   clear hK K mk
   generalize v0.alloc (.cells (madeCells #[Value.int .i64 0, Value.int .i64 0, Value.bool false] (n * 3)) 131) = u1 at *
   generalize v0.heap.size = xo at *
   clear Q0 T0
   have Q0 := Q9
   have T0 := T9
   clear Q9 T9
   try simp only [Act.put, sqa, sqz, sqs]
   refine wpAnyG_any [5, 11] (by kernel_rfl) (by rfl) ?_
   intro i hi
   rcases mem2 hi with rfl | rfl
   ·clear hi
    refine wpOpG (i := 5) rfl (fun K hK => ?_)
    go_simp
    with_reducible refine (FN.out _).mono ?_
    rintro e u2 ⟨rfl, hf9, hb9⟩
    have Q9 := Q0.addg hb9 hf9
    have T9 := SS.out _ Q9.bl
    refine hK.out _ _ (Or.inr T9) ?_
    clear hK K hf9 hb9
    generalize u1.heap.size = xg at *
    clear Q0 T0
    have Q0 := Q9
    have T0 := T9
    clear Q9 T9
    try simp only [Act.put, sqa, sqz, sqs]
    refine wpAnyG_any [9, 11] (by kernel_rfl) (by rfl) ?_
    intro i hi
    rcases mem2 hi with rfl | rfl
    ·clear hi
     refine wpOpG (i := 9) rfl (fun K hK => ?_)
     go_simp
     with_reducible refine (FM.out _).mono ?_
     rintro e u3 ⟨rfl, hf9, hb9⟩
     have Q9 := Q0.addm hb9 hf9
     have T9 := SS.out _ Q9.bl
     refine hK.out _ _ (Or.inr T9) ?_
     clear hK K hf9 hb9
     generalize u2.heap.size = xm at *
     clear Q0 T0
     have Q0 := Q9
     have T0 := T9
     clear Q9 T9
     try simp only [Act.put, sqa, sqz, sqs]
     refine wpAnyG_tk [12] (some 14) (i := 10) (v := ?vb410) rfl rfl (by kernel_rfl) (fun _ _ _ h => h) (Or.inl ⟨by rfl, ?yb410⟩) T0 ?rb410
     case yb410 => (intro V hSV; have s0 := hSV; go_simp; try with_reducible rfl)
     try simp only [Act.put, sqa, sqz, sqs]
     refine wpAnyG_one (i := 11) (by kernel_rfl) rfl (fun K hK => ?_)
     go_simp
     have Q9 := Q0.addp ((Below.refl _ _).alloc (Nat.le_refl _) _) (Bk.new u3 (zq6 none 0 0 none 0 0 none none) 94)
     have T9 := SS.out _ Q9.bl
     refine hK.out _ _ (Or.inr T9) ?_
     clear hK K
     generalize u3.alloc (.cells (zq6 none 0 0 none 0 0 none none) 94) = u5 at *
     generalize u3.heap.size = xp at *
     clear Q0 T0
     have Q0 := Q9
     have T0 := T9
     clear Q9 T9
     try simp only [Act.put, sqa, sqz, sqs]
     have hp9 := (Q0.hp _ rfl).2
     obtain ⟨y0, y1, y2, y3⟩ := four_c hp9
     obtain ⟨f0, f1, f2, f3⟩ := four_f hp9
     have PL9 := Q0.pl d
     clear hp9
     refine wpAnyG_one (i := 12) (by kernel_rfl) rfl (fun K hK => ?_)
     go_simp
     refine hK.out _ _ (Or.inl (by kernel_rfl)) ?_
     clear hK K
     try simp only [Act.put, sqa, sqz, sqs]
     refine wpAnyG_done (by kernel_rfl) ?_ _
     clear y0 y1 y2 y3 f0 f1 f2 f3
     go_wp2_with fail
     go_meet
     exact ⟨xo, xg, xm, xp, rfl, _, _, _, PL9⟩
    ·clear hi
     refine wpOpG (i := 11) rfl (fun K hK => ?_)
     go_simp
     have Q9 := Q0.addp ((Below.refl _ _).alloc (Nat.le_refl _) _) (Bk.new u2 (zq6 none 0 0 none 0 0 none none) 94)
     have T9 := SS.out _ Q9.bl
     refine hK.out _ _ (Or.inr T9) ?_
     clear hK K
     generalize u2.alloc (.cells (zq6 none 0 0 none 0 0 none none) 94) = u6 at *
     generalize u2.heap.size = xp at *
     clear Q0 T0
     have Q0 := Q9
     have T0 := T9
     clear Q9 T9
     try simp only [Act.put, sqa, sqz, sqs]
     refine wpAnyG_one (i := 9) (by kernel_rfl) rfl (fun K hK => ?_)
     go_simp
     with_reducible refine (FM.out _).mono ?_
     rintro e u7 ⟨rfl, hf9, hb9⟩
     have Q9 := Q0.addm hb9 hf9
     have T9 := SS.out _ Q9.bl
     refine hK.out _ _ (Or.inr T9) ?_
     clear hK K hf9 hb9
     generalize u6.heap.size = xm at *
     clear Q0 T0
     have Q0 := Q9
     have T0 := T9
     clear Q9 T9
     try simp only [Act.put, sqa, sqz, sqs]
     refine wpAnyG_tk [12] (some 14) (i := 10) (v := ?vl710) rfl rfl (by kernel_rfl) (fun _ _ _ h => h) (Or.inl ⟨by rfl, ?yl710⟩) T0 ?rl710
     case yl710 => (intro V hSV; have s0 := hSV; go_simp; try with_reducible rfl)
     try simp only [Act.put, sqa, sqz, sqs]
     have hp9 := (Q0.hp _ rfl).2
     obtain ⟨y0, y1, y2, y3⟩ := four_c hp9
     obtain ⟨f0, f1, f2, f3⟩ := four_f hp9
     have PL9 := Q0.pl d
     clear hp9
     refine wpAnyG_one (i := 12) (by kernel_rfl) rfl (fun K hK => ?_)
     go_simp
     refine hK.out _ _ (Or.inl (by kernel_rfl)) ?_
     clear hK K
     try simp only [Act.put, sqa, sqz, sqs]
     refine wpAnyG_done (by kernel_rfl) ?_ _
     clear y0 y1 y2 y3 f0 f1 f2 f3
     go_wp2_with fail
     go_meet
     exact ⟨xo, xg, xm, xp, rfl, _, _, _, PL9⟩
   ·clear hi
    refine wpOpG (i := 11) rfl (fun K hK => ?_)
    go_simp
    have Q9 := Q0.addp ((Below.refl _ _).alloc (Nat.le_refl _) _) (Bk.new u1 (zq6 none 0 0 none 0 0 none none) 94)
    have T9 := SS.out _ Q9.bl
    refine hK.out _ _ (Or.inr T9) ?_
    clear hK K
    generalize u1.alloc (.cells (zq6 none 0 0 none 0 0 none none) 94) = u8 at *
    generalize u1.heap.size = xp at *
    clear Q0 T0
    have Q0 := Q9
    have T0 := T9
    clear Q9 T9
    try simp only [Act.put, sqa, sqz, sqs]
    refine wpAnyG_one (i := 5) (by kernel_rfl) rfl (fun K hK => ?_)
    go_simp
    with_reducible refine (FN.out _).mono ?_
    rintro e u9 ⟨rfl, hf9, hb9⟩
    have Q9 := Q0.addg hb9 hf9
    have T9 := SS.out _ Q9.bl
    refine hK.out _ _ (Or.inr T9) ?_
    clear hK K hf9 hb9
    generalize u8.heap.size = xg at *
    clear Q0 T0
    have Q0 := Q9
    have T0 := T9
    clear Q9 T9
    try simp only [Act.put, sqa, sqz, sqs]
    refine wpAnyG_one (i := 9) (by kernel_rfl) rfl (fun K hK => ?_)
    go_simp
    with_reducible refine (FM.out _).mono ?_
    rintro e u10 ⟨rfl, hf9, hb9⟩
    have Q9 := Q0.addm hb9 hf9
    have T9 := SS.out _ Q9.bl
    refine hK.out _ _ (Or.inr T9) ?_
    clear hK K hf9 hb9
    generalize u9.heap.size = xm at *
    clear Q0 T0
    have Q0 := Q9
    have T0 := T9
    clear Q9 T9
    try simp only [Act.put, sqa, sqz, sqs]
    refine wpAnyG_tk [12] (some 14) (i := 10) (v := ?vl1010) rfl rfl (by kernel_rfl) (fun _ _ _ h => h) (Or.inl ⟨by rfl, ?yl1010⟩) T0 ?rl1010
    case yl1010 => (intro V hSV; have s0 := hSV; go_simp; try with_reducible rfl)
    try simp only [Act.put, sqa, sqz, sqs]
    have hp9 := (Q0.hp _ rfl).2
    obtain ⟨y0, y1, y2, y3⟩ := four_c hp9
    obtain ⟨f0, f1, f2, f3⟩ := four_f hp9
    have PL9 := Q0.pl d
    clear hp9
    refine wpAnyG_one (i := 12) (by kernel_rfl) rfl (fun K hK => ?_)
    go_simp
    refine hK.out _ _ (Or.inl (by kernel_rfl)) ?_
    clear hK K
    try simp only [Act.put, sqa, sqz, sqs]
    refine wpAnyG_done (by kernel_rfl) ?_ _
    clear y0 y1 y2 y3 f0 f1 f2 f3
    go_wp2_with fail
    go_meet
    exact ⟨xo, xg, xm, xp, rfl, _, _, _, PL9⟩
  ·clear hi
   refine wpOpG (i := 5) rfl (fun K hK => ?_)
   go_simp
   with_reducible refine (FN.out _).mono ?_
   rintro e u11 ⟨rfl, hf9, hb9⟩
   have Q9 := Q0.addg hb9 hf9
   have T9 := SS.out _ Q9.bl
   refine hK.out _ _ (Or.inr T9) ?_
   clear hK K hf9 hb9
   generalize v0.heap.size = xg at *
   clear Q0 T0
   have Q0 := Q9
   have T0 := T9
   clear Q9 T9
   try simp only [Act.put, sqa, sqz, sqs]
   refine wpAnyG_any [2, 9, 11] (by kernel_rfl) (by rfl) ?_
   intro i hi
   rcases mem3 hi with rfl | rfl | rfl
   ·clear hi
    refine wpOpG (i := 2) rfl (fun K hK => ?_)
    have mk := MK.out u11
    go_simp
    have Q9 := Q0.addo ((Below.refl _ _).alloc (Nat.le_refl _) _) (made_none u11 n)
    have T9 := SS.out _ Q9.bl
    refine hK.out _ _ (Or.inr T9) ?_
    clear hK K mk
    generalize u11.alloc (.cells (madeCells #[Value.int .i64 0, Value.int .i64 0, Value.bool false] (n * 3)) 131) = u12 at *
    generalize u11.heap.size = xo at *
    clear Q0 T0
    have Q0 := Q9
    have T0 := T9
    clear Q9 T9
    try simp only [Act.put, sqa, sqz, sqs]
    refine wpAnyG_any [9, 11] (by kernel_rfl) (by rfl) ?_
    intro i hi
    rcases mem2 hi with rfl | rfl
    ·clear hi
     refine wpOpG (i := 9) rfl (fun K hK => ?_)
     go_simp
     with_reducible refine (FM.out _).mono ?_
     rintro e u13 ⟨rfl, hf9, hb9⟩
     have Q9 := Q0.addm hb9 hf9
     have T9 := SS.out _ Q9.bl
     refine hK.out _ _ (Or.inr T9) ?_
     clear hK K hf9 hb9
     generalize u12.heap.size = xm at *
     clear Q0 T0
     have Q0 := Q9
     have T0 := T9
     clear Q9 T9
     try simp only [Act.put, sqa, sqz, sqs]
     refine wpAnyG_tk [12] (some 14) (i := 10) (v := ?vb1410) rfl rfl (by kernel_rfl) (fun _ _ _ h => h) (Or.inl ⟨by rfl, ?yb1410⟩) T0 ?rb1410
     case yb1410 => (intro V hSV; have s0 := hSV; go_simp; try with_reducible rfl)
     try simp only [Act.put, sqa, sqz, sqs]
     refine wpAnyG_one (i := 11) (by kernel_rfl) rfl (fun K hK => ?_)
     go_simp
     have Q9 := Q0.addp ((Below.refl _ _).alloc (Nat.le_refl _) _) (Bk.new u13 (zq6 none 0 0 none 0 0 none none) 94)
     have T9 := SS.out _ Q9.bl
     refine hK.out _ _ (Or.inr T9) ?_
     clear hK K
     generalize u13.alloc (.cells (zq6 none 0 0 none 0 0 none none) 94) = u15 at *
     generalize u13.heap.size = xp at *
     clear Q0 T0
     have Q0 := Q9
     have T0 := T9
     clear Q9 T9
     try simp only [Act.put, sqa, sqz, sqs]
     have hp9 := (Q0.hp _ rfl).2
     obtain ⟨y0, y1, y2, y3⟩ := four_c hp9
     obtain ⟨f0, f1, f2, f3⟩ := four_f hp9
     have PL9 := Q0.pl d
     clear hp9
     refine wpAnyG_one (i := 12) (by kernel_rfl) rfl (fun K hK => ?_)
     go_simp
     refine hK.out _ _ (Or.inl (by kernel_rfl)) ?_
     clear hK K
     try simp only [Act.put, sqa, sqz, sqs]
     refine wpAnyG_done (by kernel_rfl) ?_ _
     clear y0 y1 y2 y3 f0 f1 f2 f3
     go_wp2_with fail
     go_meet
     exact ⟨xo, xg, xm, xp, rfl, _, _, _, PL9⟩
    ·clear hi
     refine wpOpG (i := 11) rfl (fun K hK => ?_)
     go_simp
     have Q9 := Q0.addp ((Below.refl _ _).alloc (Nat.le_refl _) _) (Bk.new u12 (zq6 none 0 0 none 0 0 none none) 94)
     have T9 := SS.out _ Q9.bl
     refine hK.out _ _ (Or.inr T9) ?_
     clear hK K
     generalize u12.alloc (.cells (zq6 none 0 0 none 0 0 none none) 94) = u16 at *
     generalize u12.heap.size = xp at *
     clear Q0 T0
     have Q0 := Q9
     have T0 := T9
     clear Q9 T9
     try simp only [Act.put, sqa, sqz, sqs]
     refine wpAnyG_one (i := 9) (by kernel_rfl) rfl (fun K hK => ?_)
     go_simp
     with_reducible refine (FM.out _).mono ?_
     rintro e u17 ⟨rfl, hf9, hb9⟩
     have Q9 := Q0.addm hb9 hf9
     have T9 := SS.out _ Q9.bl
     refine hK.out _ _ (Or.inr T9) ?_
     clear hK K hf9 hb9
     generalize u16.heap.size = xm at *
     clear Q0 T0
     have Q0 := Q9
     have T0 := T9
     clear Q9 T9
     try simp only [Act.put, sqa, sqz, sqs]
     refine wpAnyG_tk [12] (some 14) (i := 10) (v := ?vl1710) rfl rfl (by kernel_rfl) (fun _ _ _ h => h) (Or.inl ⟨by rfl, ?yl1710⟩) T0 ?rl1710
     case yl1710 => (intro V hSV; have s0 := hSV; go_simp; try with_reducible rfl)
     try simp only [Act.put, sqa, sqz, sqs]
     have hp9 := (Q0.hp _ rfl).2
     obtain ⟨y0, y1, y2, y3⟩ := four_c hp9
     obtain ⟨f0, f1, f2, f3⟩ := four_f hp9
     have PL9 := Q0.pl d
     clear hp9
     refine wpAnyG_one (i := 12) (by kernel_rfl) rfl (fun K hK => ?_)
     go_simp
     refine hK.out _ _ (Or.inl (by kernel_rfl)) ?_
     clear hK K
     try simp only [Act.put, sqa, sqz, sqs]
     refine wpAnyG_done (by kernel_rfl) ?_ _
     clear y0 y1 y2 y3 f0 f1 f2 f3
     go_wp2_with fail
     go_meet
     exact ⟨xo, xg, xm, xp, rfl, _, _, _, PL9⟩
   ·clear hi
    refine wpOpG (i := 9) rfl (fun K hK => ?_)
    go_simp
    with_reducible refine (FM.out _).mono ?_
    rintro e u18 ⟨rfl, hf9, hb9⟩
    have Q9 := Q0.addm hb9 hf9
    have T9 := SS.out _ Q9.bl
    refine hK.out _ _ (Or.inr T9) ?_
    clear hK K hf9 hb9
    generalize u11.heap.size = xm at *
    clear Q0 T0
    have Q0 := Q9
    have T0 := T9
    clear Q9 T9
    try simp only [Act.put, sqa, sqz, sqs]
    refine wpAnyG_any [2, 11] (by kernel_rfl) (by rfl) ?_
    intro i hi
    rcases mem2 hi with rfl | rfl
    ·clear hi
     refine wpOpG (i := 2) rfl (fun K hK => ?_)
     have mk := MK.out u18
     go_simp
     have Q9 := Q0.addo ((Below.refl _ _).alloc (Nat.le_refl _) _) (made_none u18 n)
     have T9 := SS.out _ Q9.bl
     refine hK.out _ _ (Or.inr T9) ?_
     clear hK K mk
     generalize u18.alloc (.cells (madeCells #[Value.int .i64 0, Value.int .i64 0, Value.bool false] (n * 3)) 131) = u19 at *
     generalize u18.heap.size = xo at *
     clear Q0 T0
     have Q0 := Q9
     have T0 := T9
     clear Q9 T9
     try simp only [Act.put, sqa, sqz, sqs]
     refine wpAnyG_tk [12] (some 14) (i := 10) (v := ?vb2010) rfl rfl (by kernel_rfl) (fun _ _ _ h => h) (Or.inl ⟨by rfl, ?yb2010⟩) T0 ?rb2010
     case yb2010 => (intro V hSV; have s0 := hSV; go_simp; try with_reducible rfl)
     try simp only [Act.put, sqa, sqz, sqs]
     refine wpAnyG_one (i := 11) (by kernel_rfl) rfl (fun K hK => ?_)
     go_simp
     have Q9 := Q0.addp ((Below.refl _ _).alloc (Nat.le_refl _) _) (Bk.new u19 (zq6 none 0 0 none 0 0 none none) 94)
     have T9 := SS.out _ Q9.bl
     refine hK.out _ _ (Or.inr T9) ?_
     clear hK K
     generalize u19.alloc (.cells (zq6 none 0 0 none 0 0 none none) 94) = u21 at *
     generalize u19.heap.size = xp at *
     clear Q0 T0
     have Q0 := Q9
     have T0 := T9
     clear Q9 T9
     try simp only [Act.put, sqa, sqz, sqs]
     have hp9 := (Q0.hp _ rfl).2
     obtain ⟨y0, y1, y2, y3⟩ := four_c hp9
     obtain ⟨f0, f1, f2, f3⟩ := four_f hp9
     have PL9 := Q0.pl d
     clear hp9
     refine wpAnyG_one (i := 12) (by kernel_rfl) rfl (fun K hK => ?_)
     go_simp
     refine hK.out _ _ (Or.inl (by kernel_rfl)) ?_
     clear hK K
     try simp only [Act.put, sqa, sqz, sqs]
     refine wpAnyG_done (by kernel_rfl) ?_ _
     clear y0 y1 y2 y3 f0 f1 f2 f3
     go_wp2_with fail
     go_meet
     exact ⟨xo, xg, xm, xp, rfl, _, _, _, PL9⟩
    ·clear hi
     refine wpOpG (i := 11) rfl (fun K hK => ?_)
     go_simp
     have Q9 := Q0.addp ((Below.refl _ _).alloc (Nat.le_refl _) _) (Bk.new u18 (zq6 none 0 0 none 0 0 none none) 94)
     have T9 := SS.out _ Q9.bl
     refine hK.out _ _ (Or.inr T9) ?_
     clear hK K
     generalize u18.alloc (.cells (zq6 none 0 0 none 0 0 none none) 94) = u22 at *
     generalize u18.heap.size = xp at *
     clear Q0 T0
     have Q0 := Q9
     have T0 := T9
     clear Q9 T9
     try simp only [Act.put, sqa, sqz, sqs]
     refine wpAnyG_one (i := 2) (by kernel_rfl) rfl (fun K hK => ?_)
     have mk := MK.out u22
     go_simp
     have Q9 := Q0.addo ((Below.refl _ _).alloc (Nat.le_refl _) _) (made_none u22 n)
     have T9 := SS.out _ Q9.bl
     refine hK.out _ _ (Or.inr T9) ?_
     clear hK K mk
     generalize u22.alloc (.cells (madeCells #[Value.int .i64 0, Value.int .i64 0, Value.bool false] (n * 3)) 131) = u23 at *
     generalize u22.heap.size = xo at *
     clear Q0 T0
     have Q0 := Q9
     have T0 := T9
     clear Q9 T9
     try simp only [Act.put, sqa, sqz, sqs]
     refine wpAnyG_tk [12] (some 14) (i := 10) (v := ?vl2310) rfl rfl (by kernel_rfl) (fun _ _ _ h => h) (Or.inl ⟨by rfl, ?yl2310⟩) T0 ?rl2310
     case yl2310 => (intro V hSV; have s0 := hSV; go_simp; try with_reducible rfl)
     try simp only [Act.put, sqa, sqz, sqs]
     have hp9 := (Q0.hp _ rfl).2
     obtain ⟨y0, y1, y2, y3⟩ := four_c hp9
     obtain ⟨f0, f1, f2, f3⟩ := four_f hp9
     have PL9 := Q0.pl d
     clear hp9
     refine wpAnyG_one (i := 12) (by kernel_rfl) rfl (fun K hK => ?_)
     go_simp
     refine hK.out _ _ (Or.inl (by kernel_rfl)) ?_
     clear hK K
     try simp only [Act.put, sqa, sqz, sqs]
     refine wpAnyG_done (by kernel_rfl) ?_ _
     clear y0 y1 y2 y3 f0 f1 f2 f3
     go_wp2_with fail
     go_meet
     exact ⟨xo, xg, xm, xp, rfl, _, _, _, PL9⟩
   ·clear hi
    refine wpOpG (i := 11) rfl (fun K hK => ?_)
    go_simp
    have Q9 := Q0.addp ((Below.refl _ _).alloc (Nat.le_refl _) _) (Bk.new u11 (zq6 none 0 0 none 0 0 none none) 94)
    have T9 := SS.out _ Q9.bl
    refine hK.out _ _ (Or.inr T9) ?_
    clear hK K
    generalize u11.alloc (.cells (zq6 none 0 0 none 0 0 none none) 94) = u24 at *
    generalize u11.heap.size = xp at *
    clear Q0 T0
    have Q0 := Q9
    have T0 := T9
    clear Q9 T9
    try simp only [Act.put, sqa, sqz, sqs]
    refine wpAnyG_any [2, 9] (by kernel_rfl) (by rfl) ?_
    intro i hi
    rcases mem2 hi with rfl | rfl
    ·clear hi
     refine wpOpG (i := 2) rfl (fun K hK => ?_)
     have mk := MK.out u24
     go_simp
     have Q9 := Q0.addo ((Below.refl _ _).alloc (Nat.le_refl _) _) (made_none u24 n)
     have T9 := SS.out _ Q9.bl
     refine hK.out _ _ (Or.inr T9) ?_
     clear hK K mk
     generalize u24.alloc (.cells (madeCells #[Value.int .i64 0, Value.int .i64 0, Value.bool false] (n * 3)) 131) = u25 at *
     generalize u24.heap.size = xo at *
     clear Q0 T0
     have Q0 := Q9
     have T0 := T9
     clear Q9 T9
     try simp only [Act.put, sqa, sqz, sqs]
     refine wpAnyG_one (i := 9) (by kernel_rfl) rfl (fun K hK => ?_)
     go_simp
     with_reducible refine (FM.out _).mono ?_
     rintro e u26 ⟨rfl, hf9, hb9⟩
     have Q9 := Q0.addm hb9 hf9
     have T9 := SS.out _ Q9.bl
     refine hK.out _ _ (Or.inr T9) ?_
     clear hK K hf9 hb9
     generalize u25.heap.size = xm at *
     clear Q0 T0
     have Q0 := Q9
     have T0 := T9
     clear Q9 T9
     try simp only [Act.put, sqa, sqz, sqs]
     refine wpAnyG_tk [12] (some 14) (i := 10) (v := ?vl2610) rfl rfl (by kernel_rfl) (fun _ _ _ h => h) (Or.inl ⟨by rfl, ?yl2610⟩) T0 ?rl2610
     case yl2610 => (intro V hSV; have s0 := hSV; go_simp; try with_reducible rfl)
     try simp only [Act.put, sqa, sqz, sqs]
     have hp9 := (Q0.hp _ rfl).2
     obtain ⟨y0, y1, y2, y3⟩ := four_c hp9
     obtain ⟨f0, f1, f2, f3⟩ := four_f hp9
     have PL9 := Q0.pl d
     clear hp9
     refine wpAnyG_one (i := 12) (by kernel_rfl) rfl (fun K hK => ?_)
     go_simp
     refine hK.out _ _ (Or.inl (by kernel_rfl)) ?_
     clear hK K
     try simp only [Act.put, sqa, sqz, sqs]
     refine wpAnyG_done (by kernel_rfl) ?_ _
     clear y0 y1 y2 y3 f0 f1 f2 f3
     go_wp2_with fail
     go_meet
     exact ⟨xo, xg, xm, xp, rfl, _, _, _, PL9⟩
    ·clear hi
     refine wpOpG (i := 9) rfl (fun K hK => ?_)
     go_simp
     with_reducible refine (FM.out _).mono ?_
     rintro e u27 ⟨rfl, hf9, hb9⟩
     have Q9 := Q0.addm hb9 hf9
     have T9 := SS.out _ Q9.bl
     refine hK.out _ _ (Or.inr T9) ?_
     clear hK K hf9 hb9
     generalize u24.heap.size = xm at *
     clear Q0 T0
     have Q0 := Q9
     have T0 := T9
     clear Q9 T9
     try simp only [Act.put, sqa, sqz, sqs]
     refine wpAnyG_one (i := 2) (by kernel_rfl) rfl (fun K hK => ?_)
     have mk := MK.out u27
     go_simp
     have Q9 := Q0.addo ((Below.refl _ _).alloc (Nat.le_refl _) _) (made_none u27 n)
     have T9 := SS.out _ Q9.bl
     refine hK.out _ _ (Or.inr T9) ?_
     clear hK K mk
     generalize u27.alloc (.cells (madeCells #[Value.int .i64 0, Value.int .i64 0, Value.bool false] (n * 3)) 131) = u28 at *
     generalize u27.heap.size = xo at *
     clear Q0 T0
     have Q0 := Q9
     have T0 := T9
     clear Q9 T9
     try simp only [Act.put, sqa, sqz, sqs]
     refine wpAnyG_tk [12] (some 14) (i := 10) (v := ?vl2810) rfl rfl (by kernel_rfl) (fun _ _ _ h => h) (Or.inl ⟨by rfl, ?yl2810⟩) T0 ?rl2810
     case yl2810 => (intro V hSV; have s0 := hSV; go_simp; try with_reducible rfl)
     try simp only [Act.put, sqa, sqz, sqs]
     have hp9 := (Q0.hp _ rfl).2
     obtain ⟨y0, y1, y2, y3⟩ := four_c hp9
     obtain ⟨f0, f1, f2, f3⟩ := four_f hp9
     have PL9 := Q0.pl d
     clear hp9
     refine wpAnyG_one (i := 12) (by kernel_rfl) rfl (fun K hK => ?_)
     go_simp
     refine hK.out _ _ (Or.inl (by kernel_rfl)) ?_
     clear hK K
     try simp only [Act.put, sqa, sqz, sqs]
     refine wpAnyG_done (by kernel_rfl) ?_ _
     clear y0 y1 y2 y3 f0 f1 f2 f3
     go_wp2_with fail
     go_meet
     exact ⟨xo, xg, xm, xp, rfl, _, _, _, PL9⟩
  ·clear hi
   refine wpOpG (i := 11) rfl (fun K hK => ?_)
   go_simp
   have Q9 := Q0.addp ((Below.refl _ _).alloc (Nat.le_refl _) _) (Bk.new v0 (zq6 none 0 0 none 0 0 none none) 94)
   have T9 := SS.out _ Q9.bl
   refine hK.out _ _ (Or.inr T9) ?_
   clear hK K
   generalize v0.alloc (.cells (zq6 none 0 0 none 0 0 none none) 94) = u29 at *
   generalize v0.heap.size = xp at *
   clear Q0 T0
   have Q0 := Q9
   have T0 := T9
   clear Q9 T9
   try simp only [Act.put, sqa, sqz, sqs]
   refine wpAnyG_any [2, 5] (by kernel_rfl) (by rfl) ?_
   intro i hi
   rcases mem2 hi with rfl | rfl
   ·clear hi
    refine wpOpG (i := 2) rfl (fun K hK => ?_)
    have mk := MK.out u29
    go_simp
    have Q9 := Q0.addo ((Below.refl _ _).alloc (Nat.le_refl _) _) (made_none u29 n)
    have T9 := SS.out _ Q9.bl
    refine hK.out _ _ (Or.inr T9) ?_
    clear hK K mk
    generalize u29.alloc (.cells (madeCells #[Value.int .i64 0, Value.int .i64 0, Value.bool false] (n * 3)) 131) = u30 at *
    generalize u29.heap.size = xo at *
    clear Q0 T0
    have Q0 := Q9
    have T0 := T9
    clear Q9 T9
    try simp only [Act.put, sqa, sqz, sqs]
    refine wpAnyG_one (i := 5) (by kernel_rfl) rfl (fun K hK => ?_)
    go_simp
    with_reducible refine (FN.out _).mono ?_
    rintro e u31 ⟨rfl, hf9, hb9⟩
    have Q9 := Q0.addg hb9 hf9
    have T9 := SS.out _ Q9.bl
    refine hK.out _ _ (Or.inr T9) ?_
    clear hK K hf9 hb9
    generalize u30.heap.size = xg at *
    clear Q0 T0
    have Q0 := Q9
    have T0 := T9
    clear Q9 T9
    try simp only [Act.put, sqa, sqz, sqs]
    refine wpAnyG_one (i := 9) (by kernel_rfl) rfl (fun K hK => ?_)
    go_simp
    with_reducible refine (FM.out _).mono ?_
    rintro e u32 ⟨rfl, hf9, hb9⟩
    have Q9 := Q0.addm hb9 hf9
    have T9 := SS.out _ Q9.bl
    refine hK.out _ _ (Or.inr T9) ?_
    clear hK K hf9 hb9
    generalize u31.heap.size = xm at *
    clear Q0 T0
    have Q0 := Q9
    have T0 := T9
    clear Q9 T9
    try simp only [Act.put, sqa, sqz, sqs]
    refine wpAnyG_tk [12] (some 14) (i := 10) (v := ?vl3210) rfl rfl (by kernel_rfl) (fun _ _ _ h => h) (Or.inl ⟨by rfl, ?yl3210⟩) T0 ?rl3210
    case yl3210 => (intro V hSV; have s0 := hSV; go_simp; try with_reducible rfl)
    try simp only [Act.put, sqa, sqz, sqs]
    have hp9 := (Q0.hp _ rfl).2
    obtain ⟨y0, y1, y2, y3⟩ := four_c hp9
    obtain ⟨f0, f1, f2, f3⟩ := four_f hp9
    have PL9 := Q0.pl d
    clear hp9
    refine wpAnyG_one (i := 12) (by kernel_rfl) rfl (fun K hK => ?_)
    go_simp
    refine hK.out _ _ (Or.inl (by kernel_rfl)) ?_
    clear hK K
    try simp only [Act.put, sqa, sqz, sqs]
    refine wpAnyG_done (by kernel_rfl) ?_ _
    clear y0 y1 y2 y3 f0 f1 f2 f3
    go_wp2_with fail
    go_meet
    exact ⟨xo, xg, xm, xp, rfl, _, _, _, PL9⟩
   ·clear hi
    refine wpOpG (i := 5) rfl (fun K hK => ?_)
    go_simp
    with_reducible refine (FN.out _).mono ?_
    rintro e u33 ⟨rfl, hf9, hb9⟩
    have Q9 := Q0.addg hb9 hf9
    have T9 := SS.out _ Q9.bl
    refine hK.out _ _ (Or.inr T9) ?_
    clear hK K hf9 hb9
    generalize u29.heap.size = xg at *
    clear Q0 T0
    have Q0 := Q9
    have T0 := T9
    clear Q9 T9
    try simp only [Act.put, sqa, sqz, sqs]
    refine wpAnyG_any [2, 9] (by kernel_rfl) (by rfl) ?_
    intro i hi
    rcases mem2 hi with rfl | rfl
    ·clear hi
     refine wpOpG (i := 2) rfl (fun K hK => ?_)
     have mk := MK.out u33
     go_simp
     have Q9 := Q0.addo ((Below.refl _ _).alloc (Nat.le_refl _) _) (made_none u33 n)
     have T9 := SS.out _ Q9.bl
     refine hK.out _ _ (Or.inr T9) ?_
     clear hK K mk
     generalize u33.alloc (.cells (madeCells #[Value.int .i64 0, Value.int .i64 0, Value.bool false] (n * 3)) 131) = u34 at *
     generalize u33.heap.size = xo at *
     clear Q0 T0
     have Q0 := Q9
     have T0 := T9
     clear Q9 T9
     try simp only [Act.put, sqa, sqz, sqs]
     refine wpAnyG_one (i := 9) (by kernel_rfl) rfl (fun K hK => ?_)
     go_simp
     with_reducible refine (FM.out _).mono ?_
     rintro e u35 ⟨rfl, hf9, hb9⟩
     have Q9 := Q0.addm hb9 hf9
     have T9 := SS.out _ Q9.bl
     refine hK.out _ _ (Or.inr T9) ?_
     clear hK K hf9 hb9
     generalize u34.heap.size = xm at *
     clear Q0 T0
     have Q0 := Q9
     have T0 := T9
     clear Q9 T9
     try simp only [Act.put, sqa, sqz, sqs]
     refine wpAnyG_tk [12] (some 14) (i := 10) (v := ?vl3510) rfl rfl (by kernel_rfl) (fun _ _ _ h => h) (Or.inl ⟨by rfl, ?yl3510⟩) T0 ?rl3510
     case yl3510 => (intro V hSV; have s0 := hSV; go_simp; try with_reducible rfl)
     try simp only [Act.put, sqa, sqz, sqs]
     have hp9 := (Q0.hp _ rfl).2
     obtain ⟨y0, y1, y2, y3⟩ := four_c hp9
     obtain ⟨f0, f1, f2, f3⟩ := four_f hp9
     have PL9 := Q0.pl d
     clear hp9
     refine wpAnyG_one (i := 12) (by kernel_rfl) rfl (fun K hK => ?_)
     go_simp
     refine hK.out _ _ (Or.inl (by kernel_rfl)) ?_
     clear hK K
     try simp only [Act.put, sqa, sqz, sqs]
     refine wpAnyG_done (by kernel_rfl) ?_ _
     clear y0 y1 y2 y3 f0 f1 f2 f3
     go_wp2_with fail
     go_meet
     exact ⟨xo, xg, xm, xp, rfl, _, _, _, PL9⟩
    ·clear hi
     refine wpOpG (i := 9) rfl (fun K hK => ?_)
     go_simp
     with_reducible refine (FM.out _).mono ?_
     rintro e u36 ⟨rfl, hf9, hb9⟩
     have Q9 := Q0.addm hb9 hf9
     have T9 := SS.out _ Q9.bl
     refine hK.out _ _ (Or.inr T9) ?_
     clear hK K hf9 hb9
     generalize u33.heap.size = xm at *
     clear Q0 T0
     have Q0 := Q9
     have T0 := T9
     clear Q9 T9
     try simp only [Act.put, sqa, sqz, sqs]
     refine wpAnyG_one (i := 2) (by kernel_rfl) rfl (fun K hK => ?_)
     have mk := MK.out u36
     go_simp
     have Q9 := Q0.addo ((Below.refl _ _).alloc (Nat.le_refl _) _) (made_none u36 n)
     have T9 := SS.out _ Q9.bl
     refine hK.out _ _ (Or.inr T9) ?_
     clear hK K mk
     generalize u36.alloc (.cells (madeCells #[Value.int .i64 0, Value.int .i64 0, Value.bool false] (n * 3)) 131) = u37 at *
     generalize u36.heap.size = xo at *
     clear Q0 T0
     have Q0 := Q9
     have T0 := T9
     clear Q9 T9
     try simp only [Act.put, sqa, sqz, sqs]
     refine wpAnyG_tk [12] (some 14) (i := 10) (v := ?vl3710) rfl rfl (by kernel_rfl) (fun _ _ _ h => h) (Or.inl ⟨by rfl, ?yl3710⟩) T0 ?rl3710
     case yl3710 => (intro V hSV; have s0 := hSV; go_simp; try with_reducible rfl)
     try simp only [Act.put, sqa, sqz, sqs]
     have hp9 := (Q0.hp _ rfl).2
     obtain ⟨y0, y1, y2, y3⟩ := four_c hp9
     obtain ⟨f0, f1, f2, f3⟩ := four_f hp9
     have PL9 := Q0.pl d
     clear hp9
     refine wpAnyG_one (i := 12) (by kernel_rfl) rfl (fun K hK => ?_)
     go_simp
     refine hK.out _ _ (Or.inl (by kernel_rfl)) ?_
     clear hK K
     try simp only [Act.put, sqa, sqz, sqs]
     refine wpAnyG_done (by kernel_rfl) ?_ _
     clear y0 y1 y2 y3 f0 f1 f2 f3
     go_wp2_with fail
     go_meet
     exact ⟨xo, xg, xm, xp, rfl, _, _, _, PL9⟩
 case rest =>
  obtain ⟨xo, xg, xm, xp, rfl, kb, fk, tg, P1⟩ := hcut
  have PP : Hid (PL v wc n d 0 xo xg xm xp wc.heap.size (.slice none 0 0) kb fk tg) := P1
  have CC : Hid (∀ u, Below v.heap.size v u → u.cell? ⟨A, 2, none⟩ = some (.int .i64 cl) ∧ u.cell? ⟨A, 3, none⟩ = some (.int .i64 cd) ∧ Bk u (A + 1) (zq6 none 0 0 none 0 0 none none) 94) := show _ from fun u hu => ⟨((C0.out.next hu).cell 2).trans rfl, ((C0.out.next hu).cell 3).trans rfl, R0.out.next hu⟩
  have hxp : Hid (xp < wc.heap.size) := P1.pt.lt
  have HVS : Hid (A + 1 < v.heap.size) := R0.out.lt
  obtain ⟨c2, -, -⟩ := CC.out wc P1.bl
  clear P1 C0 R0 SS FN FM MK
  generalize wc.heap.size = B at *
  go_wp2_with fail
  go_loopw [17] (fun x wr => ∃ (i : Nat) (lv : Value) (kb : Nat → Nat) (fk : Nat → Nat → Prop) (tg : Nat → Nat), i ≤ n ∧ x = .int .i64 i ∧ PL v wr n d i xo xg xm xp B lv kb fk tg) (fun x _ => n - (RowKit.intOf x).toNat)
  case atStart => exact ⟨0, _, kb, fk, tg, Nat.zero_le _, rfl, PP.out⟩
  case round =>
   clear PP kb fk tg
   obtain ⟨i, lv, kb, fk, tg, hi, rfl, P2⟩ := hrel
   have PP : Hid (PL v wr n d i xo xg xm xp B lv kb fk tg) := P2
   clear P2
   obtain ⟨hncl, hn1, hn8⟩ := HN.out
   by_cases hlt : i < n
   case neg =>
    have e1 : ¬ (i : Int) < cl := by omega
    obtain rfl : i = n := by omega
    obtain ⟨-, -, R2⟩ := CC.out wr PP.out.bl
    obtain ⟨y0, y1, y2, y3⟩ := four_c PP.out.pt
    obtain ⟨z0, z1, z2, z3⟩ := four_c R2
    obtain ⟨f0, f1, f2, f3⟩ := four_f R2
    have R9 : Hid (Bk wr (A + 1) (zq6 none 0 0 none 0 0 none none) 94) := R2
    rcases PP.out.row.2 with ⟨-, h0⟩ | ⟨gr, cap, cur, e9, hg, hh, hc1, hc2, hc3, hc4⟩
    ·omega
    have HR : Hid (wr.heap[gr]? = some (.cells cur 108 (0, 0)) ∧ i ≤ cap ∧ cap ≤ maxLen ∧ cur.toList.take (i * 1) = (List.range i).map fun l => Value.pointer (some ⟨kb l, 0, none⟩)) := show _ ∧ _ ∧ _ ∧ _ from ⟨hh, hc1, hc2, hc4⟩
    subst e9
    have HA2 : Hid (A + 1 < v.heap.size) := HVS.out
    clear hh hc1 hc2 hc3 hc4 R2 hncl hg hlt c2 hi
    generalize ha1 : A + 1 = rb at *
    have HA3 : Hid (w.heap.size ≤ rb) := show _ ≤ rb from by rw [HA.out]; omega
    clear ha1 CC HN
    go_wp2
    refine bodyPost_ret (v := .agg (zq6 (some ⟨gr, 0, none⟩) i cap (some ⟨xo, 0, none⟩) i i (some ⟨xg, 0, none⟩) (some ⟨xm, 0, none⟩))) ?_ rfl ?_
    ·have YY : Bk ((((wr.setCell ⟨rb, 0, none⟩ (.slice (some ⟨gr, 0, none⟩) i cap)).setCell ⟨rb, 1, none⟩ (.slice (some ⟨xo, 0, none⟩) i i)).setCell ⟨rb, 2, none⟩ (.pointer (some ⟨xg, 0, none⟩))).setCell ⟨rb, 3, none⟩ (.pointer (some ⟨xm, 0, none⟩))) rb (zq6 (some ⟨gr, 0, none⟩) i cap (some ⟨xo, 0, none⟩) i i (some ⟨xg, 0, none⟩) (some ⟨xm, 0, none⟩)) 94 := by
      have := (((R9.out.set 0 (.slice (some ⟨gr, 0, none⟩) i cap)).set 1 (.slice (some ⟨xo, 0, none⟩) i i)).set 2 (.pointer (some ⟨xg, 0, none⟩))).set 3 (.pointer (some ⟨xm, 0, none⟩))
      simpa using this
     obtain ⟨Y0, Y1, Y2, Y3⟩ := four_c YY
     simp [results, Tryz.results40, go_sem, Y0, Y1, Y2, Y3]
    ·exact ⟨gr, cap, xo, xg, xm, rfl, kb, fk, _, PP.out.fin hn1 HR.out (HB0.out.trans (PP.out.bl.mono HB0.out.size)) (show w.heap.size ≤ v.heap.size from HB0.out.size) HA3.out HA2.out⟩
   have e1 : (i : Int) < cl := by omega
   obtain ⟨i0, ki, hz0, hz1, hz2⟩ := info_parts (P := Tryz.prog) (e := 108) (z := .pointer none) (size := 1) (bytes := 8) (by kernel_rfl)
   have D0 : Below wr.heap.size wr wr.drew := (Below.refl _ _).drew
   have P3 := PP.out.next D0
   obtain ⟨-, d3, -⟩ := CC.out wr.drew P3.bl
   have T1 := And.intro ((P3.pt.cell 0).trans rfl) d3
   go_wp2_with fail
   refine wp_region_G (fun V => V.cell? ⟨xp, 0, none⟩ = some lv ∧ V.cell? ⟨A, 3, none⟩ = some (.int .i64 cd)) 8 (by kernel_rfl) ?_
   refine wpAnyG_tk [8] (some 19) (i := 0) (v := ?vq0) rfl rfl (by kernel_rfl) (fun _ _ _ h => h) (Or.inl ⟨by rfl, ?yq0⟩) T1 ?rq0
   case yq0 => (intro V hSV; obtain ⟨s0, s1⟩ := hSV; go_simp; try with_reducible rfl)
   try simp only [Act.put, sqa, sqz, sqs]
   refine wpAnyG_tk [8] (some 20) (i := 1) (v := ?vq1) rfl rfl (by kernel_rfl) (fun _ _ _ h => h) (Or.inl ⟨by rfl, ?yq1⟩) T1 ?rq1
   case yq1 => (intro V hSV; obtain ⟨s0, s1⟩ := hSV; go_simp; try with_reducible rfl)
   try simp only [Act.put, sqa, sqz, sqs]
   refine wpAnyG_tk [8] (some 21) (i := 2) (v := ?vq2) rfl rfl (by kernel_rfl) (fun _ _ _ h => h) (Or.inl ⟨by rfl, ?yq2⟩) T1 ?rq2
   case yq2 => (intro V hSV; obtain ⟨s0, s1⟩ := hSV; go_simp; try with_reducible rfl)
   try simp only [Act.put, sqa, sqz, sqs]
   refine wpAnyG_tk [8] (some 22) (i := 3) (v := ?vq3) rfl rfl (by kernel_rfl) (fun _ _ _ h => h) (Or.inl ⟨by rfl, ?yq3⟩) T1 ?rq3
   case yq3 => (intro V hSV; obtain ⟨s0, s1⟩ := hSV; go_simp; try with_reducible rfl)
   try simp only [Act.put, sqa, sqz, sqs]
   refine wpAnyG_one (i := 4) (by kernel_rfl) rfl (fun K hK => ?_)
   go_simp
   with_reducible refine (LN.out _).mono ?_
   rintro e w5 ⟨pk, F5, rfl, kn5, hF5, b5⟩
   have P5 := P3.next b5
   obtain ⟨-, d5, -⟩ := CC.out w5 P5.bl
   have T5 := And.intro ((P5.pt.cell 0).trans rfl) d5
   refine hK.out _ _ (Or.inr T5) ?_
   clear hK K
   try simp only [Act.put, sqa, sqz, sqs]
   have b6 : Below w5.heap.size w5 (w5.alloc (.cells #[.pointer (some ⟨pk, 0, none⟩)] 108)) := (Below.refl _ _).alloc (Nat.le_refl _) _
   have P6 := P5.next b6
   obtain ⟨-, d6, -⟩ := CC.out _ P6.bl
   have T6 := And.intro ((P6.pt.cell 0).trans rfl) d6
   refine wpAnyG_one (i := 5) (by kernel_rfl) rfl (fun K hK => ?_)
   go_simp
   refine hK.out _ _ (Or.inr T6) ?_
   clear hK K
   try simp only [Act.put, sqa, sqz, sqs]
   have hcl6 : ∀ (j : Nat) (u : Value), [Value.pointer (some ⟨pk, 0, none⟩)][j]? = some u → (w5.alloc (.cells #[.pointer (some ⟨pk, 0, none⟩)] 108)).cell? ⟨w5.heap.size, j, none⟩ = some u := fun j u hj => by
    rw [(Bk.new w5 #[.pointer (some ⟨pk, 0, none⟩)] 108).cell]
    simpa using hj
   have hon6 : ∀ u ∈ [Value.pointer (some ⟨pk, 0, none⟩)], u.oneCell' = true := fun u hu => by simp at hu; subst hu; rfl
   have hle6 : i ≤ 1000000 := by omega
   have hB6 := P6.hB.2
   have own6 := P6.row
   refine wpAnyG_one (i := 6) (by kernel_rfl) rfl (fun K hK => ?_)
   refine step_app_at rfl (.tmp 20) (.tmp 24) 90 108 i0 (.pointer none) 1 8 rfl Tryz.underlying90 ki hz0 hz1 hz2 rfl (by decide) (by decide) B _ lv i _ [.pointer (some ⟨pk, 0, none⟩)] w5.heap.size rfl own6 rfl rfl hcl6 hon6 hle6 hB6 ?_
   intro lv' x hx hg ha
   have nxp : lv.ownBlock ≠ some xp := fun e9 => by
    have := P6.rt xp e9
    rw [P6.tp] at this
    cases this
   have BX : Bk x xp _ _ := P6.pt.kept hg nxp
   have dx : x.cell? ⟨A, 3, none⟩ = some (.int .i64 cd) := by
    have hbx : Below v.heap.size v x := P6.bl.grown hg (Nat.le_trans P6.hB.1 P6.hB.2) (fun q hq => Nat.le_trans P6.hB.1 (P6.row.lt hq).1)
    exact (CC.out x hbx).2.1
   have T7 := And.intro ((BX.cell 0).trans rfl) dx
   refine hK.out _ _ (Or.inr T7) ?_
   clear hK K
   try simp only [Act.put, List.setIfInBounds_toArray]
   have PM := P3.more b5 kn5 hF5 hx hg ha hxp.out
   obtain ⟨a7, c7, e7, -, -, -⟩ := hx.rd (by decide)
   subst e7
   have PN : Hid (PL v _ n d (i + 1) xo xg xm xp B _ _ _ _) := PM
   have y0 := (BX.cell 0).trans rfl
   have f0 := BX.free 0
   clear PM hx hg ha T1 T5 T6 own6 P6 P5 P3 d3 d5 d6 b5 b6 kn5 hF5 D0 hcl6 hon6 hB6 nxp BX dx PP
   refine wpAnyG_tk [8] (some 26) (i := 7) (v := ?vz7) rfl rfl (by kernel_rfl) (fun _ _ _ h => h) (Or.inl ⟨by rfl, ?yz7⟩) T7 ?rz7
   case yz7 => (intro V hSV; obtain ⟨s0, s1⟩ := hSV; go_simp; try with_reducible rfl)
   try simp only [Act.put]
   refine wpAnyG_one (i := 8) (by kernel_rfl) rfl (fun K hK => ?_)
   go_simp
   refine hK.out _ _ (Or.inl (by kernel_rfl)) ?_
   clear hK K
   try simp only [Act.put, sqa, sqz, sqs]
   refine wpAnyG_done (by kernel_rfl) ?_ _
   clear y0 f0 T7
   generalize x.setCell ⟨xp, 0, none⟩ _ = x8 at *
   go_wp2
   go_roundw
   case rel => exact ⟨i + 1, _, _, _, _, by omega, by go_num, PN.out⟩
   case measure => simp [RowKit.intOf]; omega
end Go.Proofs.YtmmegmonmilkcaaGreatDoor
