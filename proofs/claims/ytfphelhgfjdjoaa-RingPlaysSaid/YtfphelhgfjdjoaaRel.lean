/-
  Two rings of unlike beginnings: plain functions on their states.
-/
import Derived.Test.YtfphelhgfjdjoaaRow
namespace Go.Proofs.Ytfphelhgfjdjoaa
open Go.RowKit

structure Rel (g : Nat) (s t : RingSt) : Prop where
  room : s.room = t.room
  laid : s.laid = t.laid
  lv : s.lv = t.lv
  xs : s.xs = t.xs
  i : s.i = (t.i + g) % 4294967296
  o : s.o = (t.o + g) % 4294967296

theorem Rel.free {g : Nat} {s t : RingSt} (h : Rel g s t) : s.free = t.free := by rw [RingSt.free, RingSt.free, h.room, h.laid, h.xs]
theorem Rel.layE {g : Nat} {s t : RingSt} (h : Rel g s t) : layE s = layE t := by unfold Ytfphelhgfjdjoaa.layE; rw [h.laid, h.free]
theorem Rel.lay {g : Nat} {s t : RingSt} (h : Rel g s t) (v : Int) : Rel g (s.lay v) (t.lay v) := ⟨h.room, rfl, rfl, h.xs, h.i, h.o⟩
theorem Rel.published {g : Nat} {s t : RingSt} (h : Rel g s t) : Rel g s.published t.published :=
  ⟨h.room, rfl, h.lv, by simp [RingSt.published, h.xs, h.lv], by have := h.i; simp [RingSt.published]; omega, h.o⟩
theorem Rel.freed {g : Nat} {s t : RingSt} (h : Rel g s t) : Rel g s.freed t.freed :=
  ⟨h.room, h.laid, h.lv, by simp [RingSt.freed, h.xs], h.i, by have := h.o; simp [RingSt.freed]; omega⟩
theorem Rel.layS {g : Nat} {s t : RingSt} (h : Rel g s t) (v : Int) : Rel g (layS s v) (layS t v) := by
  unfold Ytfphelhgfjdjoaa.layS; rw [h.layE]; split
  · exact h.lay v
  · exact h
theorem Rel.pushS {g : Nat} {s t : RingSt} (h : Rel g s t) (v : Int) : Rel g (pushS s v) (pushS t v) := by
  unfold Ytfphelhgfjdjoaa.pushS; rw [h.layE]; split
  · exact (h.lay v).published
  · exact h
theorem Rel.pubS {g : Nat} {s t : RingSt} (h : Rel g s t) : Rel g (pubS s) (pubS t) := by
  unfold Ytfphelhgfjdjoaa.pubS; rw [h.laid]; split
  · exact h.published
  · exact h
theorem Rel.freeS {g : Nat} {s t : RingSt} (h : Rel g s t) : Rel g (freeS s) (freeS t) := by
  unfold Ytfphelhgfjdjoaa.freeS; rw [h.xs]; split
  · exact h
  · exact h.freed
theorem Rel.pushAll {g : Nat} (l : List Int) : ∀ {s t : RingSt}, Rel g s t → (pushAll s l).1 = (pushAll t l).1 ∧ Rel g (pushAll s l).2 (pushAll t l).2 := by
  induction l with
  | nil => intro s t h; exact ⟨rfl, h⟩
  | cons v r ih =>
    intro s t h
    rw [Ytfphelhgfjdjoaa.pushAll, Ytfphelhgfjdjoaa.pushAll, h.layE]
    split
    · obtain ⟨i1, i2⟩ := ih (h.pushS v)
      exact ⟨by show _ + 1 = _ + 1; rw [i1], i2⟩
    · exact ⟨rfl, h⟩
theorem Rel.popSome {g : Nat} {s t : RingSt} (h : Rel g s t) (k : Nat) : Rel g (popSome s k) (popSome t k) := by
  induction k with
  | zero => exact h
  | succ k ih => exact ih.freeS
theorem Rel.peekV {g : Nat} {s t : RingSt} (h : Rel g s t) : peekV s = peekV t := by unfold Ytfphelhgfjdjoaa.peekV; rw [h.xs]
theorem Rel.peekE {g : Nat} {s t : RingSt} (h : Rel g s t) : peekE s = peekE t := by unfold Ytfphelhgfjdjoaa.peekE; rw [h.xs]
theorem Rel.pubE {g : Nat} {s t : RingSt} (h : Rel g s t) : pubE s = pubE t := by unfold Ytfphelhgfjdjoaa.pubE; rw [h.laid]

theorem rel_step {g : Nat} {s t : RingSt} (h : Rel g s t) (k v : Int) (l : List Int) :
    (doStep s k v l).n = (doStep t k v l).n ∧ (doStep s k v l).e = (doStep t k v l).e ∧ (doStep s k v l).l = (doStep t k v l).l ∧ Rel g (doStep s k v l).s (doStep t k v l).s := by
  have h1 := h.layE
  have h2 := h.peekV
  have h3 := h.peekE
  have h4 := h.pubE
  unfold doStep
  split
  · exact ⟨rfl, h1, rfl, h.pushS v⟩
  split
  · exact ⟨h2, h3, rfl, h.freeS⟩
  split
  · exact ⟨rfl, h1, rfl, h.layS v⟩
  split
  · exact ⟨rfl, h4, rfl, h.pubS⟩
  split
  · exact ⟨rfl, h3, rfl, h.freeS⟩
  split
  · exact ⟨h2, h3, rfl, h⟩
  split
  · obtain ⟨i1, i2⟩ := h.pushAll (l.take 20)
    exact ⟨by show ((pushAll s _).1 : Int) = _; rw [i1], rfl, rfl, i2⟩
  · refine ⟨rfl, rfl, ?_, ?_⟩
    · show s.xs.take _ = t.xs.take _; rw [h.xs]
    · show Rel g (popSome s _) (popSome t _); rw [h.xs]; exact h.popSome _

theorem doStep_len (s : RingSt) (k v : Int) (l : List Int) : (doStep s k v l).l.length ≤ s.xs.length := by
  unfold doStep
  repeat' split
  all_goals simp
  omega

theorem ints_rd' {w : World} {B : Nat} {v : Value} {l : List Int} (h : Ints w B v l) : ∃ a cap, v = .slice a l.length cap ∧ l.length ≤ cap ∧ cap ≤ maxLen ∧ Rd w a l (fun g => B ≤ g) := by
  have h' := h
  obtain ⟨h1, h2⟩ := h
  rcases h2 with ⟨rfl, h2⟩ | ⟨g, cap, cur, rfl, hg, hh, hc1, hc2, hc3, hc4⟩
  · exact ⟨none, 0, by rw [h2], by omega, by simp [maxLen], fun j hj => by omega⟩
  · obtain ⟨a, cap', e, hS⟩ := ints_form h'
    simp only [Value.slice.injEq] at e
    obtain ⟨rfl, _, rfl⟩ := e
    exact ⟨_, _, rfl, hc1, hc2, hS.rd⟩

theorem same_is' (w : World) (a1 a2 : Option Addr) (n1 n2 c1 c2 : Nat) (l1 l2 : List Int) (G1 G2 : Nat → Prop) (h1 : Rd w a1 l1 G1) (h2 : Rd w a2 l2 G2) (e1 : l1.length = n1) (e2 : l2.length = n2) (b1 : n1 ≤ 1000000) (b2 : n2 ≤ 1000000) (r : Bool) (hr : decide (l1 = l2) = r) :
    Calls Try.prog 17 #[.slice a1 n1 c1, .slice a2 n2 c2] w fun e w' => e = .returned (.bool r) ∧ ∃ n, w' = w.drewN n := by
  subst e1 e2 hr
  exact same_any w a1 a2 c1 c2 l1 l2 G1 G2 h1 h2 b1 b2

/-- Two rings that lie apart. -/
def Apart (wr : World) (B b b2 pb pb2 : Nat) : Prop := B ≤ b ∧ B ≤ b2 ∧ B ≤ pb ∧ B ≤ pb2 ∧ b ≠ b2 ∧ b ≠ pb2 ∧ pb ≠ b2 ∧ pb ≠ pb2 ∧ b < wr.heap.size ∧ b2 < wr.heap.size ∧ pb < wr.heap.size ∧ pb2 < wr.heap.size

def BegInv (W : World) (B b b2 g : Nat) (wr : World) : Prop :=
  ∃ pb pb2 m m2 s t, RingAt wr b pb m s ∧ RingAt wr b2 pb2 m2 t ∧ Apart wr B b b2 pb pb2 ∧ Below B W wr ∧ Rel g s t

theorem step_is {w : World} {b pb m : Nat} {s : RingSt} (h : RingAt w b pb m s) (k v : Int) (a : Option Addr) (n cap : Nat) (l : List Int) (hn : l.length = n) (hlc : n ≤ cap) (hcm : cap ≤ maxLen) {B : Nat} (hr : Rd w a l (fun g => g < B)) (hb : B ≤ b) (hpb : B ≤ pb)
    (nn ee : Int) (ll : List Int) (ss : RingSt) (h1 : (doStep s (k % 8) v l).n = nn) (h2 : (doStep s (k % 8) v l).e = ee) (h3 : (doStep s (k % 8) v l).l = ll) (h4 : (doStep s (k % 8) v l).s = ss) (ln : Nat) (h5 : ll.length = ln) :
    Calls Try.prog 14 #[.pointer (some ⟨b, 0, none⟩), .agg #[.int .i64 k, .int .i64 v, .slice a n cap]] w fun e w' =>
      ∃ a' cap', e = .returned (.tuple #[.int .i64 nn, .int .i64 ee, .slice a' ln cap']) ∧ Rd w' a' ll (fun g => w.heap.size ≤ g) ∧ Stp b pb w w' ss := by
  subst hn h1 h2 h3 h4 h5
  refine (step_any h k v a cap l hlc hcm (hr.mono fun g _ hg => ⟨by omega, by omega⟩)).mono ?_
  rintro e w' ⟨v', rfl, hI, hS⟩
  obtain ⟨a', cap', rfl, _, _, hR⟩ := ints_rd' hI
  exact ⟨a', cap', rfl, hR, hS⟩
end Go.Proofs.Ytfphelhgfjdjoaa
