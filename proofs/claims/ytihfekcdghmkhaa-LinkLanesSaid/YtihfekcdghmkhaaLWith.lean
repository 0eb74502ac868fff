/-
  The walks of the document's with, is, Has, Flying and Coming.
-/
import Derived.Test.YtihfekcdghmkhaaLBase
namespace Go.Proofs.Ytihfekcdghmkhaa
open Go.RowKit
open RC (Cl cc cv zc cc_len cc_at)

theorem Try.info3 : (Try.prog.info? 3).map (fun i => (i.zero, i.size, i.bytes)) = some (some (.int .i64 0), 1, 8) := by kernel_rfl
/-- One place of a row of the call's own, where it lies. -/
theorem own_place {e : TypeId} {w : World} {B : Nat} {v : Value} {l : List Value} (h : Own e w B v l) {k : Nat} {x : Value} (hx : l[k]? = some x) :
    ∃ g cap, v = .slice (some ⟨g, 0, none⟩) l.length cap ∧ B ≤ g ∧ g < w.heap.size ∧ w.cell? ⟨g, k, none⟩ = some x ∧ w.frozen? ⟨g, k, none⟩ = false ∧ ∀ y, Own e (w.setCell ⟨g, k, none⟩ y) B v (l.set k y) := by
  obtain ⟨a, cap, e1, _, _, rd⟩ := h.rd
  obtain ⟨g', o', rfl, hg', hc⟩ := rd k x hx
  have h0 := h
  obtain ⟨hlen, hor⟩ := h
  rcases hor with ⟨hnn, -⟩ | ⟨g, cap', cur, e2, hg, hh, hcs, hcm, hcz, htk⟩
  · exfalso
    rw [e1] at hnn
    simp at hnn
  rw [e1] at e2
  simp only [Value.slice.injEq, Option.some.injEq, Addr.mk.injEq] at e2
  obtain ⟨⟨rfl, rfl, -⟩, -, rfl⟩ := e2
  rw [Nat.zero_add] at hc
  refine ⟨g', cap, e1, hg, hg', hc, Bk.free hh k, fun y => ?_⟩
  unfold Own at h0
  rw [e1] at h0 ⊢
  obtain ⟨s1, _⟩ := World.ownsRow.stored h0 k y
  unfold Own
  rw [List.length_set]
  exact s1
theorem with_any (l : List Int) (a : Option Addr) (c k : Nat) (d : Int) (w : World) (hr : Rd w a (vi l)) (hk : k < l.length) (hl : l.length ≤ 1000) (hb : -9223372036854775808 ≤ l.getD k 0 + d ∧ l.getD k 0 + d ≤ 9223372036854775807) :
    Calls Try.prog 48 #[.slice a l.length c, .int .i64 (k : Int), .int .i64 d] w fun e w' => ∃ v, e = .returned v ∧ Own 3 w' w.heap.size v (vi (l.set k (l.getD k 0 + d))) ∧ Below w.heap.size w w' := by
  obtain ⟨i0, ki, hz0, hz1, hz2⟩ := info_parts Try.info3
  have hnil : a = none → l.length = 0 ∧ c = 0 := fun h => by
    obtain ⟨g, o, e, _⟩ := hr k _ (vi_at hk)
    rw [h] at e
    cases e
  have hm : (vi l).length = l.length * 1 := by rw [vi_len, Nat.mul_one]
  have hl2 : 0 + l.length ≤ 1000000 := by omega
  have own0 : OwnK 3 1 w w.heap.size (.slice none 0 0) 0 [] := OwnK.nil _ _ _ _
  have hx := vi_at hk
  have HS : Hid (∀ x, (vi l).set k (.int .i64 x) = vi (l.set k x)) := show _ from fun x => (vi_set l k x).symm
  have VO := vi_one l
  have e1 : (k : Int) < (l.length : Int) := by omega
  have e0 : (0 : Int) ≤ (k : Int) := by omega
  generalize l.getD k 0 = x at *
  have hw : IntKind.i64.wrap (x + d) = x + d := IntWalk.i64_in _ hb
  have HL : Hid ((vi l).length = l.length) := vi_len l
  generalize vi l = vl at *
  go_enter Try.func48, Try.ntmps48
  go_wp2_with (at_builtin; go_loud (refine wpList_app_srck rfl (.tmp 8) (.tmp 9) 27 3 i0 (.int .i64 0) 1 8 rfl Try.underlying27 ki hz0 hz1 hz2 rfl (by decide) (by decide) w.heap.size w (.slice none 0 0) 0 [] rfl own0 a l.length c rfl hnil vl hm hr VO hl2 (Nat.le_refl _) ?_; intro v1 w1 o1 g1; have own1 : Own 3 w1 w.heap.size v1 vl := (by unfold Own; rw [HL.out]; rw [Nat.zero_add, List.nil_append] at o1; exact o1); obtain ⟨g, cap, rfl, hgB, hgz, hcg, hfg, hset⟩ := own_place own1 hx; have B1 : Hid (Below w.heap.size w w1) := (Below.refl _ _).grown g1 (Nat.le_refl _) (fun q hq => by simp [Value.ownBlock] at hq)))
  go_ret
  refine ⟨_, rfl, ?_, B1.out.setCell hgB _⟩
  rw [← HS.out]
  have := hset (.int .i64 (x + d))
  rwa [HL.out] at this

abbrev lz : Array Value := #[.int .i64 0, .int .i64 0, .int .i64 0, .slice none 0 0, .slice none 0 0, .slice none 0 0, .slice none 0 0]
theorem is_any (N d r : Int) (v3 v4 v5 v6 : Value) (k : Int) (w : World) (hs : ∀ v ∈ [v3, v4, v5, v6], ∃ a n c, v = .slice a n c) : Calls Try.prog 39 #[.agg #[.int .i64 N, .int .i64 d, .int .i64 r, v3, v4, v5, v6], .int .i64 k] w fun e w' => e = .returned (.bool (decide (0 ≤ k ∧ k < N))) ∧ Below w.heap.size w w' := by
  obtain ⟨a3, n3, c3, rfl⟩ := hs v3 (by simp)
  obtain ⟨a4, n4, c4, rfl⟩ := hs v4 (by simp)
  obtain ⟨a5, n5, c5, rfl⟩ := hs v5 (by simp)
  obtain ⟨a6, n6, c6, rfl⟩ := hs v6 (by simp)
  have B0 : Hid (Below w.heap.size w (w.alloc (.cells #[.int .i64 N, .int .i64 d, .int .i64 r, .slice a3 n3 c3, .slice a4 n4 c4, .slice a5 n5 c5, .slice a6 n6 c6] 30))) := (Below.refl _ _).alloc (Nat.le_refl _) _
  clear hs
  by_cases h0 : 0 ≤ k
  · by_cases h1 : k < N
    · rw [decide_eq_true (⟨h0, h1⟩ : 0 ≤ k ∧ k < N)]
      go_enter Try.func39, Try.ntmps39
      go_wp2
      go_ret
      exact ⟨rfl, B0.out⟩
    · rw [decide_eq_false (fun h => h1 h.2 : ¬ (0 ≤ k ∧ k < N))]
      go_enter Try.func39, Try.ntmps39
      go_wp2
      go_ret
      exact ⟨rfl, B0.out⟩
  · rw [decide_eq_false (fun h => h0 h.1 : ¬ (0 ≤ k ∧ k < N))]
    go_enter Try.func39, Try.ntmps39
    go_wp2
    go_ret
    exact ⟨rfl, B0.out⟩
end Go.Proofs.Ytihfekcdghmkhaa
