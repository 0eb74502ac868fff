/-
 The program's router in memory: where things lie, what a step of one part keeps of the others. No call in it.
-/
import Derived.Test.YtmmegmonmilkcaaGreatDoorRtBase
import Derived.Test.YtmmegmonmilkcaaGreatDoorGrid
namespace Go.Proofs.YtmmegmonmilkcaaGreatDoor
open Go.RowKit
structure Lay where
 lb : Nat → Nat
 lc : Nat → Nat
 ob : Nat → Nat
 gb : Nat → Nat
 mb : Nat → Nat
 kb : Nat → Nat
 fk : Nat → Nat → Prop
 tg : Nat → Nat
def ptc (Y : Lay) (n p : Nat) : List Value := [.slice (some ⟨Y.lb p, 0, none⟩) n (Y.lc p), .slice (some ⟨Y.ob p, 0, none⟩) n n, .pointer (some ⟨Y.gb p, 0, none⟩), .pointer (some ⟨Y.mb p, 0, none⟩)]
def rtc (c : G.Cf) (node : Int) (Y : Lay) (n : Nat) : Array Value := ((G.cfc c).toList ++ (.int .i64 node :: (ptc Y n 0 ++ (ptc Y n 1 ++ (ptc Y n 2 ++ (ptc Y n 3 ++ ptc Y n 4)))))).toArray
def o3 (n : Nat) (x : Int) : List Value := if 0 ≤ x then [.int .i64 ((x.toNat / n : Nat) : Int), .int .i64 ((x.toNat % n : Nat) : Int), .bool true] else [.int .i64 0, .int .i64 0, .bool false]
def OwB (w : World) (g n : Nat) (f : Nat → Int) : Prop := ∃ cs, Bk w g cs 131 ∧ cs.size = n * 3 ∧ ∀ l, l < n → ∀ j, j < 3 → cs[l * 3 + j]? = (o3 n (f l))[j]?
theorem OwB.lt {w : World} {g n : Nat} {f : Nat → Int} (h : OwB w g n f) : g < w.heap.size := by obtain ⟨_, h, _⟩ := h; exact h.lt
theorem OwB.keep {w w' : World} {g n : Nat} {f : Nat → Int} (h : OwB w g n f) (k : w'.heap[g]? = w.heap[g]?) : OwB w' g n f := by
 obtain ⟨cs, h, r⟩ := h
 exact ⟨cs, by unfold Bk; rw [k]; exact h, r⟩
theorem OwB.ext {w : World} {g n : Nat} {f f' : Nat → Int} (h : OwB w g n f) (e : ∀ l, l < n → f' l = f l) : OwB w g n f' := by
 obtain ⟨cs, h, s, r⟩ := h
 exact ⟨cs, h, s, fun l hl j hj => by rw [e l hl]; exact r l hl j hj⟩
theorem OwB.cells {w : World} {g n : Nat} {f : Nat → Int} (h : OwB w g n f) {l : Nat} (hl : l < n) : ∀ j, j < 3 → w.cell? ⟨g, l * 3 + j, none⟩ = (o3 n (f l))[j]? := fun j hj => by
 obtain ⟨cs, h, s, r⟩ := h
 rw [h.cell]
 exact r l hl j hj
theorem OwB.free {w : World} {g n : Nat} {f : Nat → Int} (h : OwB w g n f) (j : Nat) : w.frozen? ⟨g, j, none⟩ = false := by
 obtain ⟨cs, h, _⟩ := h
 exact h.free j
theorem OwB.put {w : World} {g n : Nat} {f : Nat → Int} (h : OwB w g n f) {l : Nat} (hl : l < n) (x : Int) {a b d : Value} (e : o3 n x = [a, b, d]) :
  OwB (((w.setCell ⟨g, l * 3 + 0, none⟩ a).setCell ⟨g, l * 3 + 1, none⟩ b).setCell ⟨g, l * 3 + 2, none⟩ d) g n (fun i => if i = l then x else f i) := by
 obtain ⟨cs, h, s, r⟩ := h
 refine ⟨_, ((h.set _ a).set _ b).set _ d, by simp [s], fun i hi j hj => ?_⟩
 show _ = (o3 n (if i = l then x else f i))[j]?
 by_cases c : i = l
 ·subst c
  rw [if_pos rfl, e]
  match j, hj with
  | 0, _ =>
   rw [Array.getElem?_setIfInBounds_ne (by omega), Array.getElem?_setIfInBounds_ne (by omega), Array.getElem?_setIfInBounds_self_of_lt (by omega)]
   rfl
  | 1, _ =>
   rw [Array.getElem?_setIfInBounds_ne (by omega), Array.getElem?_setIfInBounds_self_of_lt (by simp; omega)]
   rfl
  | 2, _ =>
   rw [Array.getElem?_setIfInBounds_self_of_lt (by simp; omega)]
   rfl
 ·rw [if_neg c, Array.getElem?_setIfInBounds_ne (by omega), Array.getElem?_setIfInBounds_ne (by omega), Array.getElem?_setIfInBounds_ne (by omega)]
  exact r i hi j hj
theorem on_three (g i j k : Nat) (a b d : Value) (w : World) : On g w (((w.setCell ⟨g, i, none⟩ a).setCell ⟨g, j, none⟩ b).setCell ⟨g, k, none⟩ d) := (((On.refl g w).set i a).set j b).set k d
def PtR (w : World) (g n : Nat) (f : Nat → Nat) : Prop := ∃ cs, Bk w g cs 108 ∧ ∀ l, l < n → cs[l]? = some (.pointer (some ⟨f l, 0, none⟩))
theorem PtR.keep {w w' : World} {g n : Nat} {f : Nat → Nat} (h : PtR w g n f) (k : w'.heap[g]? = w.heap[g]?) : PtR w' g n f := by
 obtain ⟨cs, h, r⟩ := h
 exact ⟨cs, by unfold Bk; rw [k]; exact h, r⟩
theorem PtR.cell {w : World} {g n : Nat} {f : Nat → Nat} (h : PtR w g n f) {l : Nat} (hl : l < n) : w.cell? ⟨g, l, none⟩ = some (.pointer (some ⟨f l, 0, none⟩)) := by
 obtain ⟨cs, h, r⟩ := h
 rw [h.cell]
 exact r l hl
theorem Fb_keep {v v' : World} {b N l : Nat} (h : FA.Fb v b N l) (k : v'.heap[b]? = v.heap[b]?) : FA.Fb v' b N l := by
 obtain ⟨hl, n, e, h⟩ := h
 exact ⟨hl, n, e, by unfold FA.Bk; rw [k]; exact h⟩
theorem Kn_keep {v v' : World} {b : Nat} {K : KS} {F : Nat → Prop} (h : Kn v b K F) (k : ∀ g, F g → v'.heap[g]? = v.heap[g]?) : Kn v' b K F := by
 obtain ⟨ok, r0, pr, mr, sr, h, rfl⟩ := h
 exact ⟨ok, r0, pr, mr, sr, h.keep k, rfl⟩
structure PtAt (w : World) (n : Nat) (ins : Nat → KS) (own : Nat → Int) (gv mv : Nat → Nat) (Y : Lay) (m : Nat) : Prop where
 lr : ∀ p, p < m → PtR w (Y.lb p) n (fun l => Y.kb (p * n + l)) ∧ n ≤ Y.lc p ∧ Y.lc p ≤ maxLen
 ow : ∀ p, p < m → OwB w (Y.ob p) n (fun l => own (p * n + l))
 gf : ∀ p, p < m → FA.Fb w (Y.gb p) n (gv p)
 mf : ∀ p, p < m → FA.Fb w (Y.mb p) (5 * n) (mv p)
 kn : ∀ k, k < m * n → Kn w (Y.kb k) (ins k) (Y.fk k)
 tl : ∀ p, p < m → Y.tg (Y.lb p) = 2 + p
 tO : ∀ p, p < m → Y.tg (Y.ob p) = 7 + p
 tG : ∀ p, p < m → Y.tg (Y.gb p) = 12 + p
 tM : ∀ p, p < m → Y.tg (Y.mb p) = 17 + p
 tk : ∀ k, k < m * n → ∀ g, Y.fk k g → Y.tg g = 22 + k
 lt : ∀ g, Y.tg g ≠ 0 → g < w.heap.size
theorem PtAt.keep {w w' : World} {n m : Nat} {ins : Nat → KS} {own : Nat → Int} {gv mv : Nat → Nat} {Y : Lay} (h : PtAt w n ins own gv mv Y m) (hs : w.heap.size ≤ w'.heap.size) (k : ∀ g, 2 ≤ Y.tg g → w'.heap[g]? = w.heap[g]?) : PtAt w' n ins own gv mv Y m :=
 ⟨fun p hp => ⟨(h.lr p hp).1.keep (k _ (by rw [h.tl p hp]; omega)), (h.lr p hp).2⟩, fun p hp => (h.ow p hp).keep (k _ (by rw [h.tO p hp]; omega)), fun p hp => Fb_keep (h.gf p hp) (k _ (by rw [h.tG p hp]; omega)),
  fun p hp => Fb_keep (h.mf p hp) (k _ (by rw [h.tM p hp]; omega)), fun j hj => Kn_keep (h.kn j hj) fun g hg => k g (by rw [h.tk j hj g hg]; omega), h.tl, h.tO, h.tG, h.tM, h.tk, fun g hg => Nat.lt_of_lt_of_le (h.lt g hg) hs⟩
structure RtAt (w : World) (b : Nat) (c : G.Cf) (S : RS) (Y : Lay) : Prop where
 blk : Bk w b (rtc c S.node Y S.n) 97
 tb : Y.tg b = 1
 at_ : PtAt w S.n (fun k => S.ins.getD k zks) (fun k => S.own.getD k 0) (fun p => S.gv.getD p 0) (fun p => S.mv.getD p 0) Y 5
 lz : ∀ k, k < 5 * S.n → (S.ins.getD k zks).ph = 2 → (S.ins.getD k zks).port = 0 → (S.ins.getD k zks).lane = 0
section
variable {w w' : World} {b : Nat} {c : G.Cf} {S : RS} {Y : Lay}
theorem RtAt.keep (h : RtAt w b c S Y) (hs : w.heap.size ≤ w'.heap.size) (k : ∀ g, Y.tg g ≠ 0 → w'.heap[g]? = w.heap[g]?) : RtAt w' b c S Y :=
 ⟨by unfold Bk; rw [k b (by rw [h.tb]; decide)]; exact h.blk, h.tb, h.at_.keep hs fun g hg => k g (by omega), h.lz⟩
theorem RtAt.next (h : RtAt w b c S Y) (hb : Below w.heap.size w w') : RtAt w' b c S Y := h.keep hb.size fun g hg => hb.block g (h.at_.lt g hg)
abbrev fpr (Y : Lay) : Nat → Prop := fun g => Y.tg g ≠ 0
open Classical in
theorem RtAt.lane {k : Nat} {K : KS} {F' : Nat → Prop} (h : RtAt w b c S Y) (hl : S.ins.length = 5 * S.n) (hk : k < 5 * S.n) (hK : Kn w' (Y.kb k) K F') (g : Gr (Y.fk k) w w' F') (hz : K.ph = 2 → K.port = 0 → K.lane = 0) :
  ∃ Y', RtAt w' b c { S with ins := S.ins.set k K } Y' ∧ Gr (fpr Y) w w' (fpr Y') := by
 have key : ∀ q, Y.tg q ≠ 0 → Y.tg q ≠ 22 + k → w'.heap[q]? = w.heap[q]? := fun q h0 h1 => g.block q (h.at_.lt q h0) fun hf => h1 (h.at_.tk k hk q hf)
 have old : ∀ q, Y.tg q ≠ 0 → (if w.heap.size ≤ q ∧ F' q then 22 + k else Y.tg q) = Y.tg q := fun q h0 => if_neg fun c => by have := h.at_.lt q h0; omega
 refine ⟨{ Y with fk := fun j => if j = k then F' else Y.fk j, tg := fun q => if w.heap.size ≤ q ∧ F' q then 22 + k else Y.tg q }, ⟨?_, ?_, ⟨?_, ?_, ?_, ?_, ?_, ?_, ?_, ?_, ?_, ?_, ?_⟩, ?_⟩, ⟨g.os, g.tape, g.output, g.size, fun q hq h0 => g.block q hq fun hf => h0 (show Y.tg q ≠ 0 by rw [h.at_.tk k hk q hf]; omega), fun q hq => ?_⟩⟩
 ·show Bk w' b (rtc c S.node Y S.n) _
  unfold Bk
  rw [key b (by rw [h.tb]; decide) (by rw [h.tb]; omega)]
  exact h.blk
 ·show (if w.heap.size ≤ b ∧ F' b then 22 + k else Y.tg b) = 1
  rw [old b (by rw [h.tb]; decide)]
  exact h.tb
 ·exact fun p hp => ⟨(h.at_.lr p hp).1.keep (key _ (by rw [h.at_.tl p hp]; omega) (by rw [h.at_.tl p hp]; omega)), (h.at_.lr p hp).2⟩
 ·exact fun p hp => (h.at_.ow p hp).keep (key _ (by rw [h.at_.tO p hp]; omega) (by rw [h.at_.tO p hp]; omega))
 ·exact fun p hp => Fb_keep (h.at_.gf p hp) (key _ (by rw [h.at_.tG p hp]; omega) (by rw [h.at_.tG p hp]; omega))
 ·exact fun p hp => Fb_keep (h.at_.mf p hp) (key _ (by rw [h.at_.tM p hp]; omega) (by rw [h.at_.tM p hp]; omega))
 ·intro j hj
  show Kn w' (Y.kb j) ((S.ins.set k K).getD j zks) (if j = k then F' else Y.fk j)
  rw [getDset _ _ _ _ _ (by rw [hl]; exact hk)]
  by_cases e : j = k
  ·subst e
   rw [if_pos rfl, if_pos rfl]
   exact hK
  ·rw [if_neg e, if_neg e]
   exact Kn_keep (h.at_.kn j hj) fun q hq => key q (by rw [h.at_.tk j hj q hq]; omega) (by rw [h.at_.tk j hj q hq]; omega)
 ·exact fun p hp => (old _ (by rw [h.at_.tl p hp]; omega)).trans (h.at_.tl p hp)
 ·exact fun p hp => (old _ (by rw [h.at_.tO p hp]; omega)).trans (h.at_.tO p hp)
 ·exact fun p hp => (old _ (by rw [h.at_.tG p hp]; omega)).trans (h.at_.tG p hp)
 ·exact fun p hp => (old _ (by rw [h.at_.tM p hp]; omega)).trans (h.at_.tM p hp)
 ·intro j hj q hq
  replace hq : (if j = k then F' else Y.fk j) q := hq
  show (if w.heap.size ≤ q ∧ F' q then 22 + k else Y.tg q) = 22 + j
  by_cases e : j = k
  ·subst e
   rw [if_pos rfl] at hq
   by_cases h1 : w.heap.size ≤ q
   ·rw [if_pos ⟨h1, hq⟩]
   ·rw [if_neg fun c => h1 c.1]
    rcases g.news q hq with h2 | h2
    ·exact h.at_.tk j hj q h2
    ·exact absurd h2 h1
  ·rw [if_neg e] at hq
   have := h.at_.tk j hj q hq
   rw [old q (by rw [this]; omega)]
   exact this
 ·intro q hq
  replace hq : (if w.heap.size ≤ q ∧ F' q then 22 + k else Y.tg q) ≠ 0 := hq
  by_cases h1 : w.heap.size ≤ q ∧ F' q
  ·exact hK.lt q h1.2
  ·rw [if_neg h1] at hq
   exact Nat.lt_of_lt_of_le (h.at_.lt q hq) g.size
 ·intro j hj
  show ((S.ins.set k K).getD j zks).ph = 2 → ((S.ins.set k K).getD j zks).port = 0 → ((S.ins.set k K).getD j zks).lane = 0
  rw [getDset _ _ _ _ _ (by rw [hl]; exact hk)]
  by_cases e : j = k
  ·rw [if_pos e]
   exact hz
  ·rw [if_neg e]
   exact h.lz j hj
 ·replace hq : (if w.heap.size ≤ q ∧ F' q then 22 + k else Y.tg q) ≠ 0 := hq
  by_cases h1 : w.heap.size ≤ q ∧ F' q
  ·exact Or.inr h1.1
  ·rw [if_neg h1] at hq
   exact Or.inl hq
theorem RtAt.block {q : Nat} (h : RtAt w b c S Y) (g : On q w w') : ∀ i, Y.tg i ≠ 0 → i ≠ q → w'.heap[i]? = w.heap[i]? := fun i h0 hne => g.out.block i (h.at_.lt i h0) fun e => hne (Option.some.inj e)
theorem RtAt.gr {q : Nat} (h0 : Y.tg q ≠ 0) (g : On q w w') : Gr (fpr Y) w w' (fpr Y) := g.gr (F := fpr Y) h0
theorem ix_lt' {p l n : Nat} (hp : p < 5) (hl : l < n) : p * n + l < 5 * n := by
 have : p * n ≤ 4 * n := Nat.mul_le_mul_right n (by omega)
 omega
theorem ix_inj {p q l i n : Nat} (hl : l < n) (hi : i < n) (e : p * n + l = q * n + i) : p = q ∧ l = i := by
 have hn : 0 < n := by omega
 have h1 := div_mod_eq (j := p * n + l) hn hl rfl
 have h2 := div_mod_eq (j := p * n + l) hn hi e
 exact ⟨h1.1.symm.trans h2.1, h1.2.symm.trans h2.2⟩
theorem RtAt.owner {p l : Nat} {x : Int} (h : RtAt w b c S Y) (hl : S.own.length = 5 * S.n) (hp : p < 5) (hq : l < S.n) (g : On (Y.ob p) w w') (ho : OwB w' (Y.ob p) S.n (fun i => if i = l then x else S.own.getD (p * S.n + i) 0)) :
  RtAt w' b c { S with own := S.own.set (p * S.n + l) x } Y := by
 have tq := h.at_.tO p hp
 have key : ∀ i, Y.tg i ≠ 0 → Y.tg i ≠ 7 + p → w'.heap[i]? = w.heap[i]? := fun i h0 h1 => h.block g i h0 fun e => h1 (by rw [e]; exact tq)
 have hix := ix_lt' hp hq
 refine ⟨?_, h.tb, ⟨fun r hr => ⟨(h.at_.lr r hr).1.keep (key _ (by rw [h.at_.tl r hr]; omega) (by rw [h.at_.tl r hr]; omega)), (h.at_.lr r hr).2⟩, fun r hr => ?_,
  fun r hr => Fb_keep (h.at_.gf r hr) (key _ (by rw [h.at_.tG r hr]; omega) (by rw [h.at_.tG r hr]; omega)), fun r hr => Fb_keep (h.at_.mf r hr) (key _ (by rw [h.at_.tM r hr]; omega) (by rw [h.at_.tM r hr]; omega)),
  fun j hj => Kn_keep (h.at_.kn j hj) fun i hi => key i (by rw [h.at_.tk j hj i hi]; omega) (by rw [h.at_.tk j hj i hi]; omega), h.at_.tl, h.at_.tO, h.at_.tG, h.at_.tM, h.at_.tk, fun i hi => Nat.lt_of_lt_of_le (h.at_.lt i hi) g.size⟩, h.lz⟩
 ·show Bk w' b (rtc c S.node Y S.n) _
  unfold Bk
  rw [key b (by rw [h.tb]; decide) (by rw [h.tb]; omega)]
  exact h.blk
 ·show OwB w' (Y.ob r) S.n (fun i => (S.own.set (p * S.n + l) x).getD (r * S.n + i) 0)
  by_cases e : r = p
  ·subst e
   refine ho.ext fun i hi => ?_
   rw [getDset _ _ _ _ _ (by rw [hl]; exact hix)]
   by_cases e2 : i = l
   ·rw [if_pos (by rw [e2]), if_pos e2]
   ·rw [if_neg (fun c => e2 (ix_inj hi hq c).2), if_neg e2]
  ·refine ((h.at_.ow r hr).keep (key _ (by rw [h.at_.tO r hr]; omega) (by rw [h.at_.tO r hr]; omega))).ext fun i hi => ?_
   rw [getDset _ _ _ _ _ (by rw [hl]; exact hix), if_neg (fun c => e (ix_inj hi hq c).1)]
theorem RtAt.gives {p x : Nat} (h : RtAt w b c S Y) (hl : S.gv.length = 5) (hp : p < 5) (g : On (Y.gb p) w w') (ho : FA.Fb w' (Y.gb p) S.n x) : RtAt w' b c { S with gv := S.gv.set p x } Y := by
 have tq := h.at_.tG p hp
 have key : ∀ i, Y.tg i ≠ 0 → Y.tg i ≠ 12 + p → w'.heap[i]? = w.heap[i]? := fun i h0 h1 => h.block g i h0 fun e => h1 (by rw [e]; exact tq)
 refine ⟨?_, h.tb, ⟨fun r hr => ⟨(h.at_.lr r hr).1.keep (key _ (by rw [h.at_.tl r hr]; omega) (by rw [h.at_.tl r hr]; omega)), (h.at_.lr r hr).2⟩, fun r hr => (h.at_.ow r hr).keep (key _ (by rw [h.at_.tO r hr]; omega) (by rw [h.at_.tO r hr]; omega)),
  fun r hr => ?_, fun r hr => Fb_keep (h.at_.mf r hr) (key _ (by rw [h.at_.tM r hr]; omega) (by rw [h.at_.tM r hr]; omega)),
  fun j hj => Kn_keep (h.at_.kn j hj) fun i hi => key i (by rw [h.at_.tk j hj i hi]; omega) (by rw [h.at_.tk j hj i hi]; omega), h.at_.tl, h.at_.tO, h.at_.tG, h.at_.tM, h.at_.tk, fun i hi => Nat.lt_of_lt_of_le (h.at_.lt i hi) g.size⟩, h.lz⟩
 ·show Bk w' b (rtc c S.node Y S.n) _
  unfold Bk
  rw [key b (by rw [h.tb]; decide) (by rw [h.tb]; omega)]
  exact h.blk
 ·show FA.Fb w' (Y.gb r) S.n ((S.gv.set p x).getD r 0)
  rw [getDset _ _ _ _ _ (by rw [hl]; exact hp)]
  by_cases e : r = p
  ·subst e
   rw [if_pos rfl]
   exact ho
  ·rw [if_neg e]
   exact Fb_keep (h.at_.gf r hr) (key _ (by rw [h.at_.tG r hr]; omega) (by rw [h.at_.tG r hr]; omega))
theorem RtAt.moves {p x : Nat} (h : RtAt w b c S Y) (hl : S.mv.length = 5) (hp : p < 5) (g : On (Y.mb p) w w') (ho : FA.Fb w' (Y.mb p) (5 * S.n) x) : RtAt w' b c { S with mv := S.mv.set p x } Y := by
 have tq := h.at_.tM p hp
 have key : ∀ i, Y.tg i ≠ 0 → Y.tg i ≠ 17 + p → w'.heap[i]? = w.heap[i]? := fun i h0 h1 => h.block g i h0 fun e => h1 (by rw [e]; exact tq)
 refine ⟨?_, h.tb, ⟨fun r hr => ⟨(h.at_.lr r hr).1.keep (key _ (by rw [h.at_.tl r hr]; omega) (by rw [h.at_.tl r hr]; omega)), (h.at_.lr r hr).2⟩, fun r hr => (h.at_.ow r hr).keep (key _ (by rw [h.at_.tO r hr]; omega) (by rw [h.at_.tO r hr]; omega)),
  fun r hr => Fb_keep (h.at_.gf r hr) (key _ (by rw [h.at_.tG r hr]; omega) (by rw [h.at_.tG r hr]; omega)), fun r hr => ?_,
  fun j hj => Kn_keep (h.at_.kn j hj) fun i hi => key i (by rw [h.at_.tk j hj i hi]; omega) (by rw [h.at_.tk j hj i hi]; omega), h.at_.tl, h.at_.tO, h.at_.tG, h.at_.tM, h.at_.tk, fun i hi => Nat.lt_of_lt_of_le (h.at_.lt i hi) g.size⟩, h.lz⟩
 ·show Bk w' b (rtc c S.node Y S.n) _
  unfold Bk
  rw [key b (by rw [h.tb]; decide) (by rw [h.tb]; omega)]
  exact h.blk
 ·show FA.Fb w' (Y.mb r) (5 * S.n) ((S.mv.set p x).getD r 0)
  rw [getDset _ _ _ _ _ (by rw [hl]; exact hp)]
  by_cases e : r = p
  ·subst e
   rw [if_pos rfl]
   exact ho
  ·rw [if_neg e]
   exact Fb_keep (h.at_.mf r hr) (key _ (by rw [h.at_.tM r hr]; omega) (by rw [h.at_.tM r hr]; omega))
end
end Go.Proofs.YtmmegmonmilkcaaGreatDoor
