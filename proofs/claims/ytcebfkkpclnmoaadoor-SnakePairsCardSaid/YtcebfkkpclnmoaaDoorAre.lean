/-
  Numbers that came in, or that are the call's own, read as a list; the walk of areNodes and of what it hands to the library.
-/
import Derived.Test.YtcebfkkpclnmoaaDoorSPlain
import Derived.Test.YtcebfkkpclnmoaaDoorPlace
import Derived.Test.YtcebfkkpclnmoaaDoorBlk
import Derived.Test.YtcebfkkpclnmoaaDoorVi
namespace Go.Proofs.YtcebfkkpclnmoaaDoor
open Go.RowKit

/-- A slice that reads as these values: in one block, at an offset. -/
def RdA (w : World) (a : Option Addr) (vs : List Value) : Prop :=
  ∀ (j : Nat) (v : Value), vs[j]? = some v → ∃ g o, a = some ⟨g, o, none⟩ ∧ g < w.heap.size ∧ w.cell? ⟨g, o + j, none⟩ = some v
theorem RdA.of {w : World} {a : Option Addr} {vs : List Value} (h : Rd w a vs) : RdA w a vs := fun j v hj => by
  obtain ⟨g, h1, h2, h3⟩ := h j v hj
  exact ⟨g, 0, h1, h2, by rw [Nat.zero_add]; exact h3⟩
theorem RdA.keep {w w' : World} {a : Option Addr} {vs : List Value} (h : RdA w a vs) (hs : w.heap.size ≤ w'.heap.size) (hk : ∀ g, g < w.heap.size → w'.heap[g]? = w.heap[g]?) : RdA w' a vs := fun j v hj => by
  obtain ⟨g, o, h1, h2, h3⟩ := h j v hj
  exact ⟨g, o, h1, by omega, by rw [World.cell?_of_block (hk g h2)]; exact h3⟩
theorem RdA.below {w w' : World} {a : Option Addr} {vs : List Value} (h : RdA w a vs) (b : Below w.heap.size w w') : RdA w' a vs := h.keep b.size (fun g hg => b.block g hg)
theorem RdA.alloc {w : World} {a : Option Addr} {vs : List Value} (h : RdA w a vs) (o : Obj) : RdA (w.alloc o) a vs := h.keep (by simp) (fun g hg => Below.heap_alloc _ _ _ hg)
theorem RdA.nil (w : World) (a : Option Addr) : RdA w a (vi []) := fun j v hj => by cases hj
theorem RdA.take {w : World} {a : Option Addr} {l : List Int} (h : RdA w a (vi l)) (k : Nat) : RdA w a (vi (l.take k)) := fun j v hj => by
  refine h j v ?_
  unfold vi at hj ⊢
  rw [List.map_take] at hj
  rw [List.getElem?_take] at hj
  split at hj
  · exact hj
  · cases hj
/-- Numbers that a machine's words hold. -/
def inI (n : Int) : Prop := -9223372036854775808 ≤ n ∧ n ≤ 9223372036854775807
theorem isN_inI {c : Cf} {n : Int} (h : isN c n = true) : inI n := by
  have := isN_lt h
  unfold inI
  omega
theorem getD_mem {l : List Int} {k : Nat} (h : k < l.length) : l.getD k 0 ∈ l := by
  rw [List.getD_eq_getElem?_getD, List.getElem?_eq_getElem h]
  exact List.getElem_mem _
theorem getD_at {l : List Int} {k : Nat} (h : k < l.length) : l.getD k 0 = l[k] := by
  rw [List.getD_eq_getElem?_getD, List.getElem?_eq_getElem h]
  rfl

set_option maxHeartbeats 1000000 in
theorem isnone_any (c : Cf) (x : Int) (b : Nat) (w : World) (hb : Blk w b c) :
    Calls Tryd.prog 53 #[.int .i64 x, .pointer (some ⟨b, 0, none⟩)] w fun e w' => e = .returned (.bool (!isN c x)) ∧ Below w.heap.size w w' := by
  have K := is_any c x
  have x0 := hb.cell 0
  have x1 := hb.cell 1
  have x2 := hb.cell 2
  have x3 := hb.cell 3
  have x4 := hb.cell 4
  have x5 := hb.cell 5
  have x6 := hb.cell 6
  have x7 := hb.cell 7
  have x8 := hb.cell 8
  clear hb
  generalize isN c x = t at *
  obtain ⟨cw, ch, cl, cd, cr, ci, cb, we, ca⟩ := c
  simp only [cfv, cfc] at *
  simp at x0 x1 x2 x3 x4 x5 x6 x7 x8
  go_enter Tryd.func53, Tryd.ntmps53
  go_wp2_with fail
  go_at_call 39
  refine (K _).mono ?_
  rintro e v1 ⟨rfl, hb⟩
  have HB : Hid (Below w.heap.size w v1) := hb
  clear hb K
  go_wp2
  go_ret
  exact ⟨rfl, HB.out⟩

/-- The place of the first number that is no node, or one below 0. -/
def FirstNone (c : Cf) (zs : List Int) (w : World) (e : Ending) (w' : World) : Prop :=
  Below w.heap.size w w' ∧ ∃ r : Int, e = .returned (.int .i64 r) ∧ decide (0 ≤ r) = !(areN c zs)
theorem FirstNone.mk {c : Cf} {zs : List Int} {w w' : World} {r : Int} (h : Below w.heap.size w w') (hr : decide (0 ≤ r) = !(areN c zs)) : FirstNone c zs w (.returned (.int .i64 r)) w' := ⟨h, r, rfl, hr⟩

set_option maxRecDepth 100000 in
set_option maxHeartbeats 1000000 in
theorem indexnone_any (c : Cf) (b : Nat) (a : Option Addr) (zs : List Int) (cap : Nat) (w : World) (hb : Blk w b c) (hz : zs.length ≤ 100000) (hr : RdA w a (vi zs)) :
    Calls Tryd.prog 60 #[.slice a zs.length cap, .func (.func 53) #[] #[.pointer (some ⟨b, 0, none⟩)]] w (FirstNone c zs w) := by
  have K := fun x v (h : Blk v b c) => isnone_any c x b v h
  have HB : Hid (Blk w b c) := hb
  have HR : Hid (RdA w a (vi zs)) := hr
  clear hb hr
  obtain ⟨N, hN⟩ : ∃ N : Int → Bool, N = fun x => isN c x := ⟨_, rfl⟩
  have HNN : Hid (N = fun x => isN c x) := hN
  have eN : ∀ x, isN c x = N x := fun x => by rw [hN]
  simp only [eN] at K
  clear eN hN
  generalize hn : zs.length = n at *
  have HN : Hid (zs.length = n) := hn
  clear hn
  go_enter Tryd.func60, Tryd.ntmps60
  go_wp2
  go_loopg [5, 8] n (fun gg _ s8 wr => ∃ k : Nat, k ≤ n ∧ n - k ≤ gg ∧ s8 = .int .i64 k ∧ Aside (Below w.heap.size w wr) ∧ Aside (∀ j, j < k → N (zs.getD j 0) = true))
  case atStart => exact ⟨0, Nat.zero_le _, by omega, rfl, Below.refl _ _, fun j hj => absurd hj (Nat.not_lt_zero _)⟩
  case round =>
    obtain ⟨k, hk, hg, rfl, BW, A⟩ := hrel
    by_cases hlt : k < n
    · have hltz : (k : Int) < (n : Int) := by omega
      have hv := vi_at (l := zs) (k := k) (by rw [HN.out]; exact hlt)
      obtain ⟨g, o, rfl, hg', c0⟩ := HR.out k _ hv
      have c1 : wr.cell? ⟨g, o + k, none⟩ = some (.int .i64 (zs.getD k 0)) := (BW.out.cell (p := ⟨g, o + k, none⟩) hg').trans c0
      have hcall := K (zs.getD k 0) wr (HB.out.below BW.out)
      clear hv c0 hg' K
      generalize hy : zs.getD k 0 = y at c1 hcall
      have B : Aside (zs.getD k 0 = y) := hy
      clear hy
      cases ho : N y with
      | false =>
        rw [ho] at hcall
        have O : Aside (N y = false) := ho
        clear ho
        go_wp2_with fail
        go_at_call 53
        refine hcall.mono ?_
        rintro e w' ⟨rfl, hb'⟩
        have HB' : Hid (Below w.heap.size w w') := BW.out.trans (hb'.mono BW.out.size)
        clear hb' hcall BW
        go_wp2
        go_ret
        refine FirstNone.mk HB'.out ?_
        have hm : ¬ areN c zs = true := by
          intro h
          have := areN_iff.1 h y (by rw [← B.out]; exact getD_mem (by rw [HN.out]; exact hlt))
          have ey : N y = isN c y := by rw [HNN.out]
          rw [← ey, O.out] at this
          cases this
        have : areN c zs = false := by simpa using hm
        rw [this]
        simp
      | true =>
        rw [ho] at hcall
        have O : Aside (N y = true) := ho
        clear ho
        go_wp2_with fail
        go_at_call 53
        refine hcall.mono ?_
        rintro e w' ⟨rfl, hb'⟩
        have HB' : Aside (Below w.heap.size w w') := BW.out.trans (hb'.mono BW.out.size)
        clear hb' hcall BW
        go_wp2
        go_roundg (n - (k + 1))
        case measure => omega
        case rel =>
          refine ⟨k + 1, by omega, by omega, by go_num, HB', (show Aside _ from fun j hj => ?_)⟩
          by_cases e : j = k
          · subst e
            rw [B.out]; exact O.out
          · exact A.out j (by omega)
    · have hltz : ¬ (k : Int) < (n : Int) := by omega
      obtain rfl : k = n := by omega
      go_wp2
      go_ret
      refine FirstNone.mk BW.out ?_
      have : areN c zs = true := by
        rw [areN_iff]
        intro x hx
        obtain ⟨j, hj, rfl⟩ := List.getElem_of_mem hx
        have h := A.out j (by rw [← HN.out]; exact hj)
        rw [getD_at hj, HNN.out] at h
        exact h
      rw [this]
      simp

set_option maxHeartbeats 1000000 in
theorem areNodes_any (c : Cf) (a : Option Addr) (zs : List Int) (cap : Nat) (w : World) (hz : zs.length ≤ 100000) (hr : RdA w a (vi zs)) :
    Calls Tryd.prog 40 #[cfv c, .slice a zs.length cap] w fun e w' => e = .returned (.bool (areN c zs)) ∧ Below w.heap.size w w' := by
  have K := fun b v h => indexnone_any c b a zs cap v h hz
  have A0 : Hid (At w c (w.alloc (.cells (cfc c) 23))) := At.start w c
  have KC : ∀ v (h : Blk v w.heap.size c) (h' : RdA v a (vi zs)), Calls Tryd.prog 54 #[.slice a zs.length cap, .func (.func 53) #[] #[.pointer (some ⟨w.heap.size, 0, none⟩)]] v fun e w' => e = .returned (.bool (!areN c zs)) ∧ Below v.heap.size v w' := by
    intro v h h'
    have K := K w.heap.size v h h'
    clear h h'
    unfold FirstNone at K
    generalize areN c zs = t at *
    generalize zs.length = n at *
    generalize w.heap.size = bb at *
    go_enter Tryd.func54, Tryd.ntmps54
    go_wp2_with fail
    go_at_call 60
    refine K.mono ?_
    rintro e w' ⟨hb, r, rfl, hr⟩
    have HR : Hid (decide (0 ≤ r) = !t) := hr
    have HB : Hid (Below v.heap.size v w') := hb
    clear hr hb K
    go_wp2
    go_ret
    exact ⟨ret_bool HR.out, HB.out⟩
  have KC := KC _ (Blk.new w c) (hr.alloc _)
  clear K hr
  generalize areN c zs = t at *
  generalize zs.length = n at *
  obtain ⟨cw, ch, cl, cd, cr, ci, cb, we, ca⟩ := c
  simp only [cfv, cfc] at *
  go_enter Tryd.func40, Tryd.ntmps40
  go_wp2_with fail
  go_at_call 54
  refine KC.mono ?_
  rintro e v1 ⟨rfl, hb⟩
  have HA1 : Hid (At w _ v1) := A0.out.trans hb
  clear hb KC
  go_wp2
  go_ret
  exact ⟨rfl, HA1.out.below⟩
end Go.Proofs.YtcebfkkpclnmoaaDoor
