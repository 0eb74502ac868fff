/-
  step: one step on a ring.
-/
import Derived.Test.YtfphelhgfjdjoaaSame
namespace Go.Proofs.Ytfphelhgfjdjoaa
open Go.RowKit

structure Out where
  n : Int
  e : Int
  l : List Int
  s : RingSt

/-- What a step answers, and leaves. -/
def doStep (s : RingSt) (k v : Int) (l : List Int) : Out :=
  if k = 0 then ⟨0, layE s, [], pushS s v⟩
  else if k = 1 then ⟨peekV s, peekE s, [], freeS s⟩
  else if k = 2 then ⟨0, layE s, [], layS s v⟩
  else if k = 3 then ⟨0, pubE s, [], pubS s⟩
  else if k = 4 then ⟨0, peekE s, [], freeS s⟩
  else if k = 5 then ⟨peekV s, peekE s, [], s⟩
  else if k = 6 then ⟨(pushAll s (l.take 20)).1, 0, [], (pushAll s (l.take 20)).2⟩
  else ⟨0, 0, s.xs.take (min v s.xs.length).toNat, popSome s (min v s.xs.length).toNat⟩

def StepPost (b pb : Nat) (w : World) (o : Out) (e : Ending) (w' : World) : Prop :=
  ∃ v, e = .returned (.tuple #[.int .i64 o.n, .int .i64 o.e, v]) ∧ Ints w' w.heap.size v o.l ∧ Stp b pb w w' o.s

theorem Ints.mono {w : World} {B B' : Nat} {v : Value} {l : List Int} (h : Ints w B v l) (hb : B' ≤ B) : Ints w B' v l := by
  obtain ⟨h1, h2⟩ := h
  refine ⟨h1, ?_⟩
  rcases h2 with h2 | ⟨g, cap, cur, hv, hg, hh, r⟩
  · exact Or.inl h2
  · exact Or.inr ⟨g, cap, cur, hv, by omega, hh, r⟩

theorem Ints.nil (w : World) (B : Nat) : Ints w B (.slice none 0 0) [] := World.ownsRow_nil _ _ _ _

theorem RingAt.alloc {w : World} {b pb m : Nat} {s : RingSt} (h : RingAt w b pb m s) (o : Obj) : RingAt (w.alloc o) b pb m s :=
  h.keep (Below.heap_alloc _ _ _ h.lt.1) (Below.heap_alloc _ _ _ h.lt.2)

theorem Rd.alloc {w : World} {a : Option Addr} {l : List Int} {G : Nat → Prop} (h : Rd w a l G) (o : Obj) : Rd (w.alloc o) a l G :=
  h.keep (by simp) fun _ _ hg => Below.heap_alloc _ _ _ hg

theorem Stp.under2 {b pb : Nat} {w w' : World} {s' : RingSt} {o1 o2 : Obj} (h : Stp b pb ((w.alloc o1).alloc o2) w' s') (hb : b < w.heap.size ∧ pb < w.heap.size) : Stp b pb w w' s' := by
  obtain ⟨p, m, h1, h2, h3⟩ := h
  refine ⟨p, m, h1, (((Fr.refl b pb w).alloc o1).alloc o2).trans h2 (Or.inl rfl), ?_⟩
  simp at h3
  omega

section
variable {w : World} {b pb m : Nat} {s : RingSt}

theorem ring_pushAll' (h : RingAt w b pb m s) (a : Option Addr) (n cap : Nat) (l : List Int) (hn : n = l.length) (hl : l.length ≤ 1000000) (hr : Rd w a l (fun g => g ≠ b ∧ g ≠ pb)) :
    Calls Try.prog 29 #[.pointer (some ⟨b, 0, none⟩), .slice a n cap] w fun e w' => e = .returned (.int .i64 (pushAll s l).1) ∧ Stp b pb w w' (pushAll s l).2 := by
  subst hn
  exact ring_pushAll h a cap l hl hr

set_option maxHeartbeats 2000000 in
theorem step_any (h : RingAt w b pb m s) (k v : Int) (a : Option Addr) (cap : Nat) (l : List Int) (hlc : l.length ≤ cap) (hcm : cap ≤ maxLen) (hr : Rd w a l (fun g => g ≠ b ∧ g ≠ pb)) :
    Calls Try.prog 14 #[.pointer (some ⟨b, 0, none⟩), .agg #[.int .i64 k, .int .i64 v, .slice a l.length cap]] w (StepPost b pb w (doStep s (k % 8) v l)) := by
  unfold maxLen at hcm
  have K := kind_any k v (.slice a l.length cap) (w.alloc (.cells #[.int .i64 k, .int .i64 v, .slice a l.length cap] 35))
  have hbb := h.lt
  have hR := (h.alloc (.cells #[.int .i64 k, .int .i64 v, .slice a l.length cap] 35)).alloc (.cells #[.int .i64 k, .int .i64 v, .slice a l.length cap] 35)
  have hA := (hr.alloc (.cells #[.int .i64 k, .int .i64 v, .slice a l.length cap] 35)).alloc (.cells #[.int .i64 k, .int .i64 v, .slice a l.length cap] 35)
  have k8 : k % 8 = 0 ∨ k % 8 = 1 ∨ k % 8 = 2 ∨ k % 8 = 3 ∨ k % 8 = 4 ∨ k % 8 = 5 ∨ k % 8 = 6 ∨ k % 8 = 7 := by omega
  clear h hr
  rcases k8 with k8 | k8 | k8 | k8 | k8 | k8 | k8 | k8
  · have C := ring_push hR v
    rw [k8] at K ⊢
    rw [doStep, if_pos rfl]
    have HH : Hid (b < w.heap.size ∧ pb < w.heap.size) := hbb
    clear hR hA k8 hbb
    generalize layE s = er at *
    generalize pushS s v = s' at *
    obtain ⟨n, hn⟩ : ∃ n, n = l.length := ⟨_, rfl⟩
    rw [← hn] at K C hlc ⊢
    clear hn
    go_enter Try.func14, Try.ntmps14
    go_wp2_with (first
      | (go_at_call 22; refine K.mono ?_; rintro e w' ⟨rfl, rfl⟩)
      | (go_at_call 23; refine C.mono ?_; rintro e w' ⟨rfl, hS⟩))
    go_ret3
    exact ⟨_, rfl, Ints.nil _ _, hS.under2 HH.out⟩
  · have C := ring_pop hR
    rw [k8] at K ⊢
    rw [doStep, if_neg (by omega), if_pos rfl]
    have HH : Hid (b < w.heap.size ∧ pb < w.heap.size) := hbb
    have HR : Hid (RingAt _ b pb m s) := hR
    clear hR hA k8 hbb
    generalize peekV s = pv at *
    generalize peekE s = er at *
    generalize freeS s = s' at *
    obtain ⟨n, hn⟩ : ∃ n, n = l.length := ⟨_, rfl⟩
    rw [← hn] at K C HR hlc ⊢
    clear hn
    go_enter Try.func14, Try.ntmps14
    go_wp2_with (first
      | (go_at_call 22; refine K.mono ?_; rintro e w' ⟨rfl, rfl⟩)
      | (go_at_call 24; refine C.mono ?_; rintro e w' ⟨rfl, hS, hF⟩))
    go_ret3
    exact ⟨_, rfl, Ints.nil _ _, Stp.under2 ⟨pb, m, hS, hF, Or.inl rfl⟩ HH.out⟩
  · have C := ring_lay hR v
    rw [k8] at K ⊢
    rw [doStep, if_neg (by omega), if_neg (by omega), if_pos rfl]
    have HH : Hid (b < w.heap.size ∧ pb < w.heap.size) := hbb
    have HR : Hid (RingAt _ b pb m s) := hR
    clear hR hA k8 hbb
    generalize layE s = er at *
    generalize layS s v = s' at *
    obtain ⟨n, hn⟩ : ∃ n, n = l.length := ⟨_, rfl⟩
    rw [← hn] at K C HR hlc ⊢
    clear hn
    go_enter Try.func14, Try.ntmps14
    go_wp2_with (first
      | (go_at_call 22; refine K.mono ?_; rintro e w' ⟨rfl, rfl⟩)
      | (go_at_call 27; refine C.mono ?_; rintro e w' ⟨rfl, hS⟩))
    go_ret3
    exact ⟨_, rfl, Ints.nil _ _, hS.under2 HH.out⟩
  · have C := ring_publish hR
    rw [k8] at K ⊢
    rw [doStep, if_neg (by omega), if_neg (by omega), if_neg (by omega), if_pos rfl]
    have HH : Hid (b < w.heap.size ∧ pb < w.heap.size) := hbb
    have HR : Hid (RingAt _ b pb m s) := hR
    clear hR hA k8 hbb
    generalize pubE s = er at *
    generalize pubS s = s' at *
    obtain ⟨n, hn⟩ : ∃ n, n = l.length := ⟨_, rfl⟩
    rw [← hn] at K C HR hlc ⊢
    clear hn
    go_enter Try.func14, Try.ntmps14
    go_wp2_with (first
      | (go_at_call 22; refine K.mono ?_; rintro e w' ⟨rfl, rfl⟩)
      | (go_at_call 28; refine C.mono ?_; rintro e w' ⟨rfl, hS⟩))
    go_ret3
    exact ⟨_, rfl, Ints.nil _ _, hS.under2 HH.out⟩
  · have C := ring_free hR
    rw [k8] at K ⊢
    rw [doStep, if_neg (by omega), if_neg (by omega), if_neg (by omega), if_neg (by omega), if_pos rfl]
    have HH : Hid (b < w.heap.size ∧ pb < w.heap.size) := hbb
    have HR : Hid (RingAt _ b pb m s) := hR
    clear hR hA k8 hbb
    generalize peekE s = er at *
    generalize freeS s = s' at *
    obtain ⟨n, hn⟩ : ∃ n, n = l.length := ⟨_, rfl⟩
    rw [← hn] at K C HR hlc ⊢
    clear hn
    go_enter Try.func14, Try.ntmps14
    go_wp2_with (first
      | (go_at_call 22; refine K.mono ?_; rintro e w' ⟨rfl, rfl⟩)
      | (go_at_call 26; refine C.mono ?_; rintro e w' ⟨rfl, n9, hS, hF, _⟩))
    go_ret3
    exact ⟨_, rfl, Ints.nil _ _, Stp.under2 ⟨pb, m, hS, hF, Or.inl rfl⟩ HH.out⟩
  · have C := ring_peek hR
    rw [k8] at K ⊢
    rw [doStep, if_neg (by omega), if_neg (by omega), if_neg (by omega), if_neg (by omega), if_neg (by omega), if_pos rfl]
    have HH : Hid (b < w.heap.size ∧ pb < w.heap.size) := hbb
    have HR : Hid (RingAt _ b pb m s) := hR
    clear hR hA k8 hbb
    generalize peekV s = pv at *
    generalize peekE s = er at *
    obtain ⟨n, hn⟩ : ∃ n, n = l.length := ⟨_, rfl⟩
    rw [← hn] at K C HR hlc ⊢
    clear hn
    go_enter Try.func14, Try.ntmps14
    go_wp2_with (first
      | (go_at_call 22; refine K.mono ?_; rintro e w' ⟨rfl, rfl⟩)
      | (go_at_call 25; refine C.mono ?_; rintro e w' ⟨rfl, n9, rfl⟩))
    go_ret3
    exact ⟨_, rfl, Ints.nil _ _, (Stp.ofDrew HR.out n9).under2 HH.out⟩
  · have hb20 : l.length < 20 ∨ 20 ≤ l.length := by omega
    rcases hb20 with hb20 | hb20
    · have C := ring_pushAll' hR a l.length cap (l.take 20) (by simp; omega) (by simp; omega) (hA.take 20)
      rw [k8] at K ⊢
      rw [doStep, if_neg (by omega), if_neg (by omega), if_neg (by omega), if_neg (by omega), if_neg (by omega), if_neg (by omega), if_pos rfl]
      have HH : Hid (b < w.heap.size ∧ pb < w.heap.size) := hbb
      clear hR hA k8 hbb
      generalize pushAll s (l.take 20) = q at *
      obtain ⟨n, hn⟩ : ∃ n, n = l.length := ⟨_, rfl⟩
      rw [← hn] at K C hlc hb20 ⊢
      clear hn
      go_enter Try.func14, Try.ntmps14
      go_wp2_with (first
        | (go_at_call 22; refine K.mono ?_; rintro e w' ⟨rfl, rfl⟩)
        | (go_at_call 29; refine C.mono ?_; rintro e w' ⟨rfl, hS⟩))
      go_ret3
      exact ⟨_, rfl, Ints.nil _ _, hS.under2 HH.out⟩
    · have C := ring_pushAll' hR a 20 cap (l.take 20) (by simp; omega) (by simp; omega) (hA.take 20)
      rw [k8] at K ⊢
      rw [doStep, if_neg (by omega), if_neg (by omega), if_neg (by omega), if_neg (by omega), if_neg (by omega), if_neg (by omega), if_pos rfl]
      have HH : Hid (b < w.heap.size ∧ pb < w.heap.size) := hbb
      clear hR hA k8 hbb
      generalize pushAll s (l.take 20) = q at *
      obtain ⟨n, hn⟩ : ∃ n, n = l.length := ⟨_, rfl⟩
      rw [← hn] at K C hlc hb20 ⊢
      clear hn
      rcases (by omega : (20 : Int) < (n : Int) ∨ n = 20) with hb20 | rfl
      all_goals
        go_enter Try.func14, Try.ntmps14
        go_wp2_with (first
          | (go_at_call 22; refine K.mono ?_; rintro e w' ⟨rfl, rfl⟩)
          | (go_at_call 29; refine C.mono ?_; rintro e w' ⟨rfl, hS⟩))
        go_ret3
        exact ⟨_, rfl, Ints.nil _ _, hS.under2 HH.out⟩
  · have C := ring_popSome hR v
    rw [k8] at K ⊢
    rw [doStep, if_neg (by omega), if_neg (by omega), if_neg (by omega), if_neg (by omega), if_neg (by omega), if_neg (by omega), if_neg (by omega)]
    have HH : Hid (b < w.heap.size ∧ pb < w.heap.size) := hbb
    have HR : Hid (RingAt _ b pb m s) := hR
    clear hR hA k8 hbb
    generalize (min v (s.xs.length : Int)).toNat = K9 at *
    generalize popSome s K9 = s' at *
    generalize s.xs.take K9 = xs' at *
    obtain ⟨n, hn⟩ : ∃ n, n = l.length := ⟨_, rfl⟩
    rw [← hn] at K C HR hlc ⊢
    clear hn
    go_enter Try.func14, Try.ntmps14
    go_wp2_with (first
      | (go_at_call 22; refine K.mono ?_; rintro e w' ⟨rfl, rfl⟩)
      | (go_at_call 30; refine C.mono ?_; rintro e w' ⟨v9, rfl, hI, hS, hF⟩))
    go_ret3
    exact ⟨_, rfl, hI.mono (by simp; omega), Stp.under2 ⟨pb, m, hS, hF, Or.inl rfl⟩ HH.out⟩

end
end Go.Proofs.Ytfphelhgfjdjoaa
