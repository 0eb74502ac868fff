/-
  Three rows of numbers of the call's own, in three places: an append to one leaves the other two. No function in it.
-/
import Derived.Test.YtcebfkkpclnmoaaDoorVi
import Derived.Maps.AppendAt
namespace Go.Proofs.YtcebfkkpclnmoaaDoor
open Go.RowKit

theorem own_keep {e : TypeId} {w w' : World} {B : Nat} {v : Value} {l : List Value} (h : Own e w B v l) (hk : ∀ g, v.ownBlock = some g → g < w.heap.size → w'.heap[g]? = w.heap[g]?) : Own e w' B v l := by
  refine ⟨h.1, ?_⟩
  rcases h.2 with hn | ⟨g, cap, cur, e, hg, hh, r⟩
  · exact Or.inl hn
  · exact Or.inr ⟨g, cap, cur, e, hg, by rw [hk g (by rw [e]; rfl) (lt_of_heap hh)]; exact hh, r⟩
theorem own_lt {e : TypeId} {w : World} {B : Nat} {v : Value} {l : List Value} (h : Own e w B v l) {k : Nat} (hk : v.ownBlock = some k) : B ≤ k ∧ k < w.heap.size := World.ownsRow.lt h k hk

structure R3 (B : Nat) (w : World) (a b c : Value) (la lb lc : List Int) : Prop where
  oa : Own 3 w B a (vi la)
  ob : Own 3 w B b (vi lb)
  oc : Own 3 w B c (vi lc)
  ab : ∀ k, a.ownBlock = some k → b.ownBlock ≠ some k
  ac : ∀ k, a.ownBlock = some k → c.ownBlock ≠ some k
  bc : ∀ k, b.ownBlock = some k → c.ownBlock ≠ some k
theorem R3.nil (B : Nat) (w : World) : R3 B w (.slice none 0 0) (.slice none 0 0) (.slice none 0 0) [] [] [] :=
  ⟨Own.nil _ _ _, Own.nil _ _ _, Own.nil _ _ _, fun k h => (by cases h), fun k h => (by cases h), fun k h => (by cases h)⟩
theorem R3.rot {B : Nat} {w : World} {a b c : Value} {la lb lc : List Int} (h : R3 B w a b c la lb lc) : R3 B w b c a lb lc la :=
  ⟨h.ob, h.oc, h.oa, h.bc, fun k hb ha => h.ab k ha hb, fun k hc ha => h.ac k ha hc⟩
theorem R3.below {B : Nat} {w w' : World} {a b c : Value} {la lb lc : List Int} (h : R3 B w a b c la lb lc) (hb : Below w.heap.size w w') : R3 B w' a b c la lb lc :=
  ⟨h.oa.below hb, h.ob.below hb, h.oc.below hb, h.ab, h.ac, h.bc⟩
/-- The first one's row has turned, and is in its own place or in a new one. -/
theorem R3.turn {B : Nat} {w w' : World} {a b c v : Value} {la lb lc lv : List Int} (h : R3 B w a b c la lb lc) (hv : Own 3 w' B v (vi lv)) (hk : ∀ g, a.ownBlock ≠ some g → g < w.heap.size → w'.heap[g]? = w.heap[g]?)
    (hp : ∀ k, v.ownBlock = some k → a.ownBlock = some k ∨ w.heap.size ≤ k) : R3 B w' v b c lv lb lc := by
  refine ⟨hv, own_keep h.ob (fun g hg hl => hk g (fun ha => h.ab g ha hg) hl), own_keep h.oc (fun g hg hl => hk g (fun ha => h.ac g ha hg) hl), ?_, ?_, h.bc⟩
  · intro k hv hb
    rcases hp k hv with ha | hn
    · exact h.ab k ha hb
    · have := (own_lt h.ob hb).2; omega
  · intro k hv hc
    rcases hp k hv with ha | hn
    · exact h.ac k ha hc
    · have := (own_lt h.oc hc).2; omega

theorem wpList_app3 {P : Program} {ops : Array Oper} {rest : List Oper} {o : Oper} {a : Act} {Q : Exit → Act → World → Prop} (hgd : o.guard = none) (s x : Operand) (t : TypeId) (i : TypeInfo)
    (ho : o.op = .call { callee := .builtin .append, args := #[s, x], argTypes := #[t, t] })
    (ht : P.underlying t = some (.slice 3)) (hi : P.info? 3 = some i) (hz : i.zero = some (.int .i64 0)) (h1 : i.size = 1) (hby : i.bytes = 8)
    (B : Nat) (w : World) (v b c : Value) (l lb lc : List Int) (n : Int) (hs : a.eval s = v) (hR : R3 B w v b c l lb lc) (hx : a.eval x = .slice (some ⟨w.heap.size, 0, none⟩) 1 1)
    (hlen : l.length ≤ 1000000) (hbase : B ≤ w.heap.size)
    (h : ∀ v' w', R3 B w' v' b c (l ++ [n]) lb lc → Below B w w' → wpList P ops Q rest (a.put o.dst v') w') :
    wpList P ops Q (o :: rest) a (w.alloc (.cells #[.int .i64 n] 3)) := by
  refine wpList_append_own_at _ hgd s x t ho B 3 i (.int .i64 0) 1 8 ht hi hz h1 hby rfl (by decide) v (vi l).length (vi l) hs (World.ownsRow.alloc hR.oa _) ⟨w.heap.size, 0, none⟩ 1 1 [.int .i64 n] hx rfl ?_ ?_ ?_ ?_ ?_ ?_
  · intro j y hj
    match j, hj with
    | 0, hj => simp at hj; subst hj; exact (World.cell?_alloc_at _ _ _ _ rfl).trans rfl
  · intro y hy; simp at hy; subst hy; rfl
  · rw [vi_len]; unfold maxLen; omega
  · rw [vi_len]; omega
  · simp; omega
  · intro v' w' hown' hgrow _ hp
    have hsz : (w.alloc (.cells #[.int .i64 n] 3)).heap.size ≤ w'.heap.size := (hgrow.size : _)
    simp at hsz
    have o1 := Own.snoc hown'
    rw [vi_snoc] at o1
    refine h v' w' (hR.turn o1 ?_ ?_) ?_
    · intro g hg hl
      rw [hgrow.block g (by simp; omega) (fun e => hg e.symm), Below.heap_alloc _ _ _ hl]
    · intro k hk
      rcases hp with hp | hp
      · exact Or.inl (by rw [← hp]; exact hk)
      · rw [hp] at hk
        simp at hk
        exact Or.inr (by omega)
    · exact Below.grown ((Below.refl _ _).alloc hbase _) hgrow (by simp; omega) (fun q hq => (own_lt hR.oa hq).1)
end Go.Proofs.YtcebfkkpclnmoaaDoor
