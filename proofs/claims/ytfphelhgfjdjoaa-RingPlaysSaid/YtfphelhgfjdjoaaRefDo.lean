/-
  stepRef: one step on the document's ring.
-/
import Derived.Test.YtfphelhgfjdjoaaRef3
namespace Go.Proofs.Ytfphelhgfjdjoaa
open Go.RowKit

def RefPost (c g : Nat) (w : World) (o : Out) (e : Ending) (w' : World) : Prop :=
  ∃ v, e = .returned (.tuple #[.int .i64 o.n, .int .i64 o.e, v]) ∧ Ints w' w.heap.size v o.l ∧ RStp c g w w' o.s

theorem RefAt.alloc {w : World} {c g : Nat} {s : RingSt} {lv : Int} (h : RefAt w c g s lv) (o : Obj) : RefAt (w.alloc o) c g s lv :=
  h.keep (by simp) (Below.heap_alloc _ _ _ h.lt.1) (Below.heap_alloc _ _ _ h.lt.2)

theorem RStp.under2 {c g : Nat} {w w' : World} {s' : RingSt} {o1 o2 : Obj} (h : RStp c g ((w.alloc o1).alloc o2) w' s') (hb : c < w.heap.size ∧ g < w.heap.size) : RStp c g w w' s' := by
  obtain ⟨p, lv, h1, h2, h3⟩ := h
  refine ⟨p, lv, h1, (((Fr.refl c c w).alloc o1).alloc o2).trans h2 (Or.inl rfl), ?_⟩
  simp at h3
  omega

section
variable {w : World} {c g : Nat} {s : RingSt} {lv : Int}

set_option maxHeartbeats 2000000 in
theorem stepRef_any (h : RefAt w c g s lv) (k v : Int) (a : Option Addr) (cap : Nat) (l : List Int) (hlc : l.length ≤ cap) (hcm : cap ≤ maxLen) (hr : Rd w a l (fun x => x ≠ c)) :
    Calls Try.prog 15 #[.pointer (some ⟨c, 0, none⟩), .agg #[.int .i64 k, .int .i64 v, .slice a l.length cap]] w (RefPost c g w (doStep s (k % 8) v l)) := by
  unfold maxLen at hcm
  have K := kind_any k v (.slice a l.length cap) (w.alloc (.cells #[.int .i64 k, .int .i64 v, .slice a l.length cap] 35))
  have hbb := h.lt
  have hR := (h.alloc (.cells #[.int .i64 k, .int .i64 v, .slice a l.length cap] 35)).alloc (.cells #[.int .i64 k, .int .i64 v, .slice a l.length cap] 35)
  have hA := (hr.alloc (.cells #[.int .i64 k, .int .i64 v, .slice a l.length cap] 35)).alloc (.cells #[.int .i64 k, .int .i64 v, .slice a l.length cap] 35)
  have k8 : k % 8 = 0 ∨ k % 8 = 1 ∨ k % 8 = 2 ∨ k % 8 = 3 ∨ k % 8 = 4 ∨ k % 8 = 5 ∨ k % 8 = 6 ∨ k % 8 = 7 := by omega
  clear h hr
  rcases k8 with k8 | k8 | k8 | k8 | k8 | k8 | k8 | k8
  · have C := ref_push hR v
    rw [k8] at K ⊢
    rw [doStep, if_pos rfl]
    have HH : Hid (c < w.heap.size ∧ g < w.heap.size) := hbb
    have HR : Hid (RefAt _ c g s lv) := hR
    clear hR hA k8 hbb
    generalize layE s = er at *
    generalize pushS s v = s' at *
    obtain ⟨n, hn⟩ : ∃ n, n = l.length := ⟨_, rfl⟩
    rw [← hn] at K C HR hlc ⊢
    clear hn
    go_enter Try.func15, Try.ntmps15
    go_wp2_with (first
      | (go_at_call 22; (with_reducible refine K.mono ?_); rintro e w' ⟨rfl, rfl⟩)
      | (go_at_call 31; (with_reducible refine C.mono ?_); rintro e w' ⟨rfl, hS⟩))
    go_ret3
    exact ⟨_, rfl, Ints.nil _ _, hS.under2 HH.out⟩
  · have C := ref_pop hR
    rw [k8] at K ⊢
    rw [doStep, if_neg (by omega), if_pos rfl]
    have HH : Hid (c < w.heap.size ∧ g < w.heap.size) := hbb
    have HR : Hid (RefAt _ c g s lv) := hR
    clear hR hA k8 hbb
    generalize peekV s = pv at *
    generalize peekE s = er at *
    generalize freeS s = s' at *
    obtain ⟨n, hn⟩ : ∃ n, n = l.length := ⟨_, rfl⟩
    rw [← hn] at K C HR hlc ⊢
    clear hn
    go_enter Try.func15, Try.ntmps15
    go_wp2_with (first
      | (go_at_call 22; (with_reducible refine K.mono ?_); rintro e w' ⟨rfl, rfl⟩)
      | (go_at_call 32; (with_reducible refine C.mono ?_); rintro e w' ⟨rfl, hS⟩))
    go_ret3
    exact ⟨_, rfl, Ints.nil _ _, hS.to.under2 HH.out⟩
  · have C := ref_lay hR v
    rw [k8] at K ⊢
    rw [doStep, if_neg (by omega), if_neg (by omega), if_pos rfl]
    have HH : Hid (c < w.heap.size ∧ g < w.heap.size) := hbb
    have HR : Hid (RefAt _ c g s lv) := hR
    clear hR hA k8 hbb
    generalize layE s = er at *
    generalize layS s v = s' at *
    obtain ⟨n, hn⟩ : ∃ n, n = l.length := ⟨_, rfl⟩
    rw [← hn] at K C HR hlc ⊢
    clear hn
    go_enter Try.func15, Try.ntmps15
    go_wp2_with (first
      | (go_at_call 22; (with_reducible refine K.mono ?_); rintro e w' ⟨rfl, rfl⟩)
      | (go_at_call 33; (with_reducible refine C.mono ?_); rintro e w' ⟨rfl, hS⟩))
    go_ret3
    exact ⟨_, rfl, Ints.nil _ _, hS.under2 HH.out⟩
  · have C := ref_publish hR
    rw [k8] at K ⊢
    rw [doStep, if_neg (by omega), if_neg (by omega), if_neg (by omega), if_pos rfl]
    have HH : Hid (c < w.heap.size ∧ g < w.heap.size) := hbb
    have HR : Hid (RefAt _ c g s lv) := hR
    clear hR hA k8 hbb
    generalize pubE s = er at *
    generalize pubS s = s' at *
    obtain ⟨n, hn⟩ : ∃ n, n = l.length := ⟨_, rfl⟩
    rw [← hn] at K C HR hlc ⊢
    clear hn
    go_enter Try.func15, Try.ntmps15
    go_wp2_with (first
      | (go_at_call 22; (with_reducible refine K.mono ?_); rintro e w' ⟨rfl, rfl⟩)
      | (go_at_call 34; (with_reducible refine C.mono ?_); rintro e w' ⟨rfl, hS⟩))
    go_ret3
    exact ⟨_, rfl, Ints.nil _ _, hS.under2 HH.out⟩
  · have C := ref_pop hR
    rw [k8] at K ⊢
    rw [doStep, if_neg (by omega), if_neg (by omega), if_neg (by omega), if_neg (by omega), if_pos rfl]
    have HH : Hid (c < w.heap.size ∧ g < w.heap.size) := hbb
    have HR : Hid (RefAt _ c g s lv) := hR
    clear hR hA k8 hbb
    generalize peekV s = pv at *
    generalize peekE s = er at *
    generalize freeS s = s' at *
    obtain ⟨n, hn⟩ : ∃ n, n = l.length := ⟨_, rfl⟩
    rw [← hn] at K C HR hlc ⊢
    clear hn
    go_enter Try.func15, Try.ntmps15
    go_wp2_with (first
      | (go_at_call 22; (with_reducible refine K.mono ?_); rintro e w' ⟨rfl, rfl⟩)
      | (go_at_call 32; (with_reducible refine C.mono ?_); rintro e w' ⟨rfl, hS⟩))
    go_ret3
    exact ⟨_, rfl, Ints.nil _ _, hS.to.under2 HH.out⟩
  · have C := ref_peek hR
    rw [k8] at K ⊢
    rw [doStep, if_neg (by omega), if_neg (by omega), if_neg (by omega), if_neg (by omega), if_neg (by omega), if_pos rfl]
    have HH : Hid (c < w.heap.size ∧ g < w.heap.size) := hbb
    have HR : Hid (RefAt _ c g s lv) := hR
    clear hR hA k8 hbb
    generalize peekV s = pv at *
    generalize peekE s = er at *
    obtain ⟨n, hn⟩ : ∃ n, n = l.length := ⟨_, rfl⟩
    rw [← hn] at K C HR hlc ⊢
    clear hn
    go_enter Try.func15, Try.ntmps15
    go_wp2_with (first
      | (go_at_call 22; (with_reducible refine K.mono ?_); rintro e w' ⟨rfl, rfl⟩)
      | (go_at_call 35; (with_reducible refine C.mono ?_); rintro e w' ⟨rfl, n9, rfl⟩))
    go_ret3
    exact ⟨_, rfl, Ints.nil _ _, (RStp.ofDrew HR.out n9).under2 HH.out⟩
  · have hb20 : l.length < 20 ∨ 20 ≤ l.length := by omega
    rcases hb20 with hb20 | hb20
    · have C := ref_pushAll hR a l.length cap (l.take 20) (by simp; omega) (by simp; omega) (hA.take 20)
      rw [k8] at K ⊢
      rw [doStep, if_neg (by omega), if_neg (by omega), if_neg (by omega), if_neg (by omega), if_neg (by omega), if_neg (by omega), if_pos rfl]
      have HH : Hid (c < w.heap.size ∧ g < w.heap.size) := hbb
      clear hR hA k8 hbb
      generalize pushAll s (l.take 20) = q at *
      obtain ⟨n, hn⟩ : ∃ n, n = l.length := ⟨_, rfl⟩
      rw [← hn] at K C hlc hb20 ⊢
      clear hn
      go_enter Try.func15, Try.ntmps15
      go_wp2_with (first
        | (go_at_call 22; (with_reducible refine K.mono ?_); rintro e w' ⟨rfl, rfl⟩)
        | (go_at_call 36; (with_reducible refine C.mono ?_); rintro e w' ⟨rfl, hS⟩))
      go_ret3
      exact ⟨_, rfl, Ints.nil _ _, hS.under2 HH.out⟩
    · have C := ref_pushAll hR a 20 cap (l.take 20) (by simp; omega) (by simp; omega) (hA.take 20)
      rw [k8] at K ⊢
      rw [doStep, if_neg (by omega), if_neg (by omega), if_neg (by omega), if_neg (by omega), if_neg (by omega), if_neg (by omega), if_pos rfl]
      have HH : Hid (c < w.heap.size ∧ g < w.heap.size) := hbb
      clear hR hA k8 hbb
      generalize pushAll s (l.take 20) = q at *
      obtain ⟨n, hn⟩ : ∃ n, n = l.length := ⟨_, rfl⟩
      rw [← hn] at K C hlc hb20 ⊢
      clear hn
      rcases (by omega : (20 : Int) < (n : Int) ∨ n = 20) with hb20 | rfl
      all_goals
        go_enter Try.func15, Try.ntmps15
        go_wp2_with (first
          | (go_at_call 22; (with_reducible refine K.mono ?_); rintro e w' ⟨rfl, rfl⟩)
          | (go_at_call 36; (with_reducible refine C.mono ?_); rintro e w' ⟨rfl, hS⟩))
        go_ret3
        exact ⟨_, rfl, Ints.nil _ _, hS.under2 HH.out⟩
  · have C := ref_popSome hR v
    rw [k8] at K ⊢
    rw [doStep, if_neg (by omega), if_neg (by omega), if_neg (by omega), if_neg (by omega), if_neg (by omega), if_neg (by omega), if_neg (by omega)]
    have HH : Hid (c < w.heap.size ∧ g < w.heap.size) := hbb
    have HR : Hid (RefAt _ c g s lv) := hR
    clear hR hA k8 hbb
    generalize (min v (s.xs.length : Int)).toNat = K9 at *
    generalize popSome s K9 = s' at *
    generalize s.xs.take K9 = xs' at *
    obtain ⟨n, hn⟩ : ∃ n, n = l.length := ⟨_, rfl⟩
    rw [← hn] at K C HR hlc ⊢
    clear hn
    go_enter Try.func15, Try.ntmps15
    go_wp2_with (first
      | (go_at_call 22; (with_reducible refine K.mono ?_); rintro e w' ⟨rfl, rfl⟩)
      | (go_at_call 37; (with_reducible refine C.mono ?_); rintro e w' ⟨v9, rfl, hI, hS⟩))
    go_ret3
    exact ⟨_, rfl, hI.mono (by simp; omega), hS.under2 HH.out⟩

theorem stepRef_is (h : RefAt w c g s lv) (k v : Int) (a : Option Addr) (n cap : Nat) (l : List Int) (hn : l.length = n) (hlc : n ≤ cap) (hcm : cap ≤ maxLen) {B : Nat} (hr : Rd w a l (fun g => g < B)) (hb : B ≤ c)
    (nn ee : Int) (ll : List Int) (ss : RingSt) (h1 : (doStep s (k % 8) v l).n = nn) (h2 : (doStep s (k % 8) v l).e = ee) (h3 : (doStep s (k % 8) v l).l = ll) (h4 : (doStep s (k % 8) v l).s = ss) (ln : Nat) (h5 : ll.length = ln) :
    Calls Try.prog 15 #[.pointer (some ⟨c, 0, none⟩), .agg #[.int .i64 k, .int .i64 v, .slice a n cap]] w fun e w' =>
      ∃ a' cap', e = .returned (.tuple #[.int .i64 nn, .int .i64 ee, .slice a' ln cap']) ∧ Rd w' a' ll (fun g => w.heap.size ≤ g) ∧ RStp c g w w' ss := by
  subst hn h1 h2 h3 h4 h5
  refine (stepRef_any h k v a cap l hlc hcm (hr.mono fun g _ hg => by omega)).mono ?_
  rintro e w' ⟨v', rfl, hI, hS⟩
  obtain ⟨a', cap', rfl, _, _, hR⟩ := ints_rd' hI
  exact ⟨a', cap', rfl, hR, hS⟩

end
end Go.Proofs.Ytfphelhgfjdjoaa
